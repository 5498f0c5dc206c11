"""Folding: a view that all later deeds have seen is told anew, without what it has struck."""

from unmixed.errors import Refused
from unmixed.histories import History
from unmixed.orders import order_in
from unmixed.pasts import has_mark, is_within
from unmixed.shown import check_with_view, shown, struck
from unmixed.things import deeds_by_marks
from unmixed.views import check_two_views


def is_settled(history, view):
    """Return whether each deed that is not in a view has all of the view in its past."""
    check_with_view(history, view)
    later = later_deeds(history, view)
    return all([is_within(view, later[mark][-1]) for mark in later])


def later_deeds(history, view):
    """Return the dictionary from the marks of the deeds that are not in a view, ascending, to the deeds."""
    deeds = deeds_by_marks(history)
    return {mark: deeds[mark] for mark in deeds if not has_mark(view, mark)}


def is_foldable(history, view):
    """Return whether a history is settled at a view and nothing behind the view refers to what the view has struck."""
    if not is_settled(history, view):
        return False
    gone = struck(history, view)
    return not any([touched_by(deed) in gone for deed in later_deeds(history, view).values()])


def touched_by(deed):
    """Return the thing that a deed strikes, or behind which it puts another one."""
    return deed[2] if deed[0] == "put" else deed[1]


def folded(history, view):
    """Return the history in which a view's things are put anew, one behind the other, the struck ones left out."""
    if not is_foldable(history, view):
        raise Refused(view)
    names = names_behind(history, view)
    deeds = {}
    for hand, deed in [*puts_anew(history, view), *deeds_anew(history, view, names)]:
        deeds.setdefault(hand, []).append(deed)
    return History(deeds)


def names_behind(history, view):
    """Return the dictionary from the marks of a history that stay to those of the folded one."""
    lowest = lowest_hand(history)
    things = shown(history, view)
    names = {thing: (lowest, at) for at, thing in enumerate(things)}
    for hand, number in later_deeds(history, view):
        ahead = len(things) if hand == lowest else 0
        names[(hand, number)] = (hand, number - view.get(hand, 0) + ahead)
    return names


def lowest_hand(history):
    """Return the lowest hand of a history, None if there is none."""
    hands = history.hands()
    return hands[0] if hands else None


def puts_anew(history, view):
    """Return the list of the tuples of the lowest hand and the put of each thing that a view shows."""
    lowest = lowest_hand(history)
    deeds = deeds_by_marks(history)
    words = [deeds[thing][1] for thing in shown(history, view)]
    puts = []
    for at, word in enumerate(words):
        left, past = ((lowest, at - 1), {lowest: at}) if at > 0 else (None, {})
        puts.append((lowest, ("put", word, left, None, past)))
    return puts


def deeds_anew(history, view, names):
    """Return the list of the tuples of a hand and a deed, told anew, for the deeds that are not in a view."""
    later = later_deeds(history, view)
    gone = struck(history, view)
    told = []
    for mark in later:
        deed = later[mark]
        past = view_behind(history, view, deed[-1])
        if deed[0] == "strike":
            told.append((mark[0], ("strike", names[deed[1]], past)))
        else:
            left, right = neighbours_behind(history, deed, gone)
            told.append((mark[0], ("put", deed[1], names.get(left), names.get(right), past)))
    return told


def neighbours_behind(history, deed, gone):
    """Return a put's left neighbour and what stands behind it in the order of its past, some things left out."""
    fenced = [None, *[thing for thing in order_in(history, deed[-1]) if thing not in gone], None]
    return deed[2], fenced[fenced.index(deed[2]) + 1]


def view_behind(history, view, later):
    """Return the view of the folded history that has what a later view has."""
    counts = {hand: later[hand] - view.get(hand, 0) for hand in later}
    things = shown(history, view)
    if things:
        lowest = lowest_hand(history)
        counts[lowest] = counts.get(lowest, 0) + len(things)
    return {hand: counts[hand] for hand in sorted(counts) if counts[hand] > 0}


def folded_view(history, view, later):
    """Return the view of the folded history that has the things and the deeds of a later view."""
    check_two_views(history, view, later)
    if not is_foldable(history, view):
        raise Refused(view)
    if not is_within(view, later):
        raise Refused(later)
    return view_behind(history, view, later)
