"""Views: deeds of a history that have, with each deed, all of that deed's past."""

from unmixed.errors import InvalidMark, InvalidView
from unmixed.histories import check_history, check_mark, has_deed, part_of
from unmixed.judging import is_view_among
from unmixed.pasts import common, has_mark, in_sequence, is_within, united


def is_view(history, value):
    """Return whether any object is a view of a history."""
    check_history(history)
    return is_view_among(history.by_hands, value)


def whole(history):
    """Return the view of all deeds."""
    check_history(history)
    return {hand: history.counts[hand] for hand in history.counts}


def joined(history, one, other):
    """Return the view of the deeds that either of two views has."""
    check_two_views(history, one, other)
    return united(one, other)


def shared(history, one, other):
    """Return the view of the deeds that both of two views have."""
    check_two_views(history, one, other)
    return common(one, other)


def has_view(history, one, other):
    """Return whether the one view has all deeds that the other one has."""
    check_two_views(history, one, other)
    return is_within(other, one)


def heads(history, view):
    """Return the ascending list of the marks of a view that are in the past of none of its deeds."""
    check_with_view(history, view)
    # Each hand's deeds but the last one are in the past of that, and what any of them has seen, it has seen, too.
    lasts = [(hand, view[hand] - 1) for hand in sorted(view)]
    pasts = [history.by_marks[mark][-1] for mark in lasts]
    return [mark for mark in lasts if not any([has_mark(past, mark) for past in pasts])]


def least_view(history, marks):
    """Return the least view that has the deeds of a list of marks."""
    check_history(history)
    if not isinstance(marks, list):
        raise InvalidMark(marks)
    for mark in marks:
        check_mark(history, mark)
    view = {}
    for hand, number in marks:
        view = united(view, {**history.by_marks[(hand, number)][-1], hand: number + 1})
    return view


def part(history, view):
    """Return the history of a view's deeds."""
    check_with_view(history, view)
    return part_of(history, view)


def sequence(history):
    """Return a list of the marks of all deeds, each behind all of its past."""
    check_history(history)
    return in_sequence({mark: deed[-1] for mark, deed in history.by_marks.items()})


def is_sequence(history, value):
    """Return whether any object is a list of the marks of all deeds, each once, each behind all of its past."""
    check_history(history)
    if not isinstance(value, list) or len(value) != history.size():
        return False
    seen = {}
    for mark in value:
        # Each hand's deeds come one by one: so none comes twice.
        if not has_deed(history, mark) or seen.get(mark[0], 0) != mark[1]:
            return False
        if not is_within(history.by_marks[mark][-1], seen):
            return False
        seen[mark[0]] = mark[1] + 1
    return True


def check_view(history, view):
    """Raise InvalidView for what is no view of a history."""
    if not is_view_among(history.by_hands, view):
        raise InvalidView(view)


def check_with_view(history, view):
    """Raise the first error of a history and a view of it."""
    check_history(history)
    check_view(history, view)


def check_two_views(history, one, other):
    """Raise the first error of a history and two views of it."""
    check_with_view(history, one)
    check_view(history, other)
