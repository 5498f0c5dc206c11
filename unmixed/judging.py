"""Whether deeds make a history, and what is the first thing that hinders them."""

from unmixed.forms import has_deeds_form, is_count
from unmixed.pasts import has_mark, in_sequence, is_within, marks_of
from unmixed.walks import Walk, things_in


def judged(deeds):
    """Return what `first_wrong` tells of any object and, where this is None, the walk of the things."""
    if not has_deeds_form(deeds):
        return ("form", None), None
    pasts = {(hand, at): deed[-1] for hand in sorted(deeds) for at, deed in enumerate(deeds[hand])}
    for mark in pasts:
        if pasts[mark].get(mark[0], 0) != mark[1]:
            return ("own", mark), None
    for mark in pasts:
        if not has_only(deeds, pasts[mark]):
            return ("there", mark), None
    # If each past has those of its hands' last deeds, the own ones among them, it has those of all of its deeds.
    if not all([has_last_pasts(deeds, past) for past in pasts.values()]):
        return ("closed", first_open(pasts)), None
    wrong, walk = judged_places(deeds, pasts)
    if not wrong:
        return None, walk
    least = min(wrong)
    return (wrong[least], least), None


def has_only(deeds, view):
    """Return whether a view has only deeds that there are."""
    for hand in view:
        if hand not in deeds or view[hand] > len(deeds[hand]):
            return False
    return True


def has_last_pasts(deeds, view):
    """Return whether a view has the past of the last deed that it has of each hand."""
    for hand in view:
        past = deeds[hand][view[hand] - 1][-1]
        for other in past:
            if past[other] > view.get(other, 0):
                return False
    return True


def first_open(pasts):
    """Return the least mark whose past lacks what is in the past of one of its deeds."""
    found = [mark for mark in pasts if not is_closed(pasts, pasts[mark])]
    return found[0]


def is_closed(pasts, view):
    """Return whether a view has, with each of its deeds, all of that deed's past."""
    return all([is_within(pasts[mark], view) for mark in marks_of(view)])


def is_view_among(deeds, value):
    """Return whether any object is a view of the history of some deeds."""
    if not isinstance(value, dict):
        return False
    for hand, count in value.items():
        # No key but a string is equal to a hand; so its form need not be asked for.
        if not is_count(count) or hand not in deeds or not 1 <= count <= len(deeds[hand]):
            return False
    return has_last_pasts(deeds, value)


def judged_places(deeds, pasts):
    """Return the words of the deeds that do not fit the order of their pasts, by marks, and the walk of the others.

    Deeds with such a one in their past are passed over: their past has no order.
    """
    walk = Walk()
    wrong = {}
    for mark in in_sequence(pasts):
        if any([has_mark(pasts[mark], other) for other in wrong]):
            continue
        deed = deeds[mark[0]][mark[1]]
        if not is_fitting(walk, deed):
            wrong[mark] = "beside" if deed[0] == "put" else "struck"
        elif deed[0] == "put":
            walk.place(mark, deed[2], deed[3])
    return wrong, walk


def is_fitting(walk, deed):
    """Return whether a deed fits the order of its past, all things of which stand in a walk."""
    if deed[0] == "strike":
        return is_seen(walk, deed, deed[1])
    left, right = deed[2], deed[3]
    if left is not None and not is_seen(walk, deed, left) or right is not None and not is_seen(walk, deed, right):
        return False
    start = 0 if left is None else walk.listed.index(left) + 1
    end = len(walk.listed) if right is None else walk.listed.index(right)
    return start <= end and not things_in(deed[-1], walk.listed[start:end])


def is_seen(walk, deed, mark):
    """Return whether a mark is that of a thing of a deed's past."""
    return mark in walk.neighbours and has_mark(deed[-1], mark)
