"""Views: deeds of a history that have, with each deed, all of that deed's past."""

from unmixed.errors import InvalidMark, InvalidView
from unmixed.forms import has_view_form
from unmixed.histories import History, all_pasts, check_history, check_mark, has_deed, past_of
from unmixed.pasts import common, has_mark, in_sequence, is_within, marks_of, united


def is_view(history, value):
    """Return whether any object is a view of a history."""
    check_history(history)
    if not has_view_form(value) or not is_within(value, whole(history)):
        return False
    pasts = all_pasts(history)
    return all([is_within(pasts[mark], value) for mark in marks_of(value)])


def whole(history):
    """Return the view of all deeds."""
    check_history(history)
    return {hand: len(history.deeds(hand)) for hand in history.hands()}


def joined(history, one, other):
    """Return the view of the deeds that either of two views has."""
    check_two_views(history, one, other)
    return united(one, other)


def shared(history, one, other):
    """Return the view of the deeds that both of two views have."""
    check_two_views(history, one, other)
    return common(one, other)


def has_view(history, one, other):
    """Return whether the one view has all deeds that the other one has."""
    check_two_views(history, one, other)
    return is_within(other, one)


def heads(history, view):
    """Return the ascending list of the marks of a view that are in the past of none of its deeds."""
    check_history(history)
    check_view(history, view)
    pasts = all_pasts(history)
    marks = marks_of(view)
    return [mark for mark in marks if not any([has_mark(pasts[other], mark) for other in marks])]


def least_view(history, marks):
    """Return the least view that has the deeds of a list of marks."""
    check_history(history)
    if not isinstance(marks, list):
        raise InvalidMark(marks)
    for mark in marks:
        check_mark(history, mark)
    view = {}
    for mark in marks:
        view = united(view, united(past_of(history, mark), {mark[0]: mark[1] + 1}))
    return view


def part(history, view):
    """Return the history of a view's deeds."""
    check_history(history)
    check_view(history, view)
    return History({hand: history.deeds(hand)[:view[hand]] for hand in view})


def sequence(history):
    """Return a list of the marks of all deeds, each behind all of its past."""
    check_history(history)
    return in_sequence(all_pasts(history))


def is_sequence(history, value):
    """Return whether any object is a list of the marks of all deeds, each once, each behind all of its past."""
    check_history(history)
    if not isinstance(value, list) or not all([has_deed(history, mark) for mark in value]):
        return False
    pasts = all_pasts(history)
    if sorted(value) != list(pasts):
        return False
    seen = {}
    for mark in value:
        if not is_within(pasts[mark], seen):
            return False
        seen[mark[0]] = mark[1] + 1
    return True


def check_view(history, view):
    """Raise InvalidView for what is no view of a history."""
    if not is_view(history, view):
        raise InvalidView(view)


def check_two_views(history, one, other):
    """Raise the first error of a history and two views of it."""
    check_history(history)
    check_view(history, one)
    check_view(history, other)
