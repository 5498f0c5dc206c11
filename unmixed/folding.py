"""Folding: a view that all later deeds have seen is told anew, without what it has struck."""

from unmixed.errors import Refused
from unmixed.histories import History
from unmixed.pasts import has_mark, is_within
from unmixed.rows import gone_in, order_seen, things_shown, words_of_things
from unmixed.views import check_two_views, check_with_view


def is_settled(history, view):
    """Return whether each deed that is not in a view has all of the view in its past."""
    check_with_view(history, view)
    return settles(history, view)


def settles(history, view):
    """Return whether a history is settled at a view."""
    for hand in history.by_hands:
        # What a hand's first deed outside has seen, its later ones have seen, too.
        behind = history.by_hands[hand][view.get(hand, 0):]
        if behind and not is_within(view, behind[0][-1]):
            return False
    return True


def later_deeds(history, view):
    """Return the dictionary from the marks of the deeds that are not in a view, ascending, to the deeds."""
    return {mark: deed for mark, deed in history.by_marks.items() if not has_mark(view, mark)}


def is_foldable(history, view):
    """Return whether a history is settled at a view and nothing behind the view refers to what the view has struck."""
    check_with_view(history, view)
    return folds(history, view)


def folds(history, view):
    """Return whether a history is foldable at a view."""
    if not settles(history, view):
        return False
    gone = gone_in(history, view)
    return not any([touched_by(deed) in gone for deed in later_deeds(history, view).values()])


def touched_by(deed):
    """Return the thing that a deed strikes, or behind which it puts another one."""
    return deed[2] if deed[0] == "put" else deed[1]


def folded(history, view):
    """Return the history in which a view's things are put anew, one behind the other, the struck ones left out."""
    check_with_view(history, view)
    if not folds(history, view):
        raise Refused(view)
    things = things_shown(history, view)
    deeds = {}
    for hand, deed in puts_anew(history, things) + deeds_anew(history, view, things):
        deeds.setdefault(hand, []).append(deed)
    return History(deeds)


def lowest_hand(history):
    """Return the lowest hand of a history, None if there is none."""
    hands = history.hands()
    return hands[0] if hands else None


def puts_anew(history, things):
    """Return the list of the tuples of the lowest hand and the put of each thing that a view shows."""
    lowest = lowest_hand(history)
    puts = []
    for at, word in enumerate(words_of_things(history, things)):
        left, past = ((lowest, at - 1), {lowest: at}) if at > 0 else (None, {})
        puts.append((lowest, ("put", word, left, None, past)))
    return puts


def deeds_anew(history, view, things):
    """Return the list of the tuples of a hand and a deed, told anew, for the deeds that are not in a view."""
    later = later_deeds(history, view)
    names = names_behind(history, view, things)
    gone = gone_in(history, view)
    told = []
    for mark in later:
        deed = later[mark]
        past = view_behind(history, view, things, deed[-1])
        if deed[0] == "strike":
            told.append((mark[0], ("strike", names[deed[1]], past)))
        else:
            right = right_behind(history, deed, gone)
            told.append((mark[0], ("put", deed[1], names[deed[2]], names[right], past)))
    return told


def names_behind(history, view, things):
    """Return the dictionary from the marks of a history that stay, and None, to those of the folded one."""
    lowest = lowest_hand(history)
    names = {thing: (lowest, at) for at, thing in enumerate(things)}
    names[None] = None
    for hand, number in later_deeds(history, view):
        ahead = len(things) if hand == lowest else 0
        names[(hand, number)] = (hand, number - view.get(hand, 0) + ahead)
    return names


def right_behind(history, deed, gone):
    """Return what stands behind a put's left neighbour in the order of its past, some things left out."""
    staying = [thing for thing in order_seen(history, deed[-1]) if thing not in gone]
    fenced = [None, *staying, None]
    return fenced[fenced.index(deed[2]) + 1]


def view_behind(history, view, things, later):
    """Return the view of the folded history that has the things that a view shows and what a later one has besides."""
    counts = {hand: later[hand] - view.get(hand, 0) for hand in later}
    if things:
        lowest = lowest_hand(history)
        counts[lowest] = counts.get(lowest, 0) + len(things)
    return {hand: counts[hand] for hand in sorted(counts) if counts[hand] > 0}


def folded_view(history, view, later):
    """Return the view of the folded history that has the things and the deeds of a later view."""
    check_two_views(history, view, later)
    if not folds(history, view):
        raise Refused(view)
    if not is_within(view, later):
        raise Refused(later)
    return view_behind(history, view, things_shown(history, view), later)
