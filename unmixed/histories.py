"""Histories: what hands did, each deed with the past that its hand had seen by then."""

from unmixed.errors import InvalidDeed, InvalidHand, InvalidHistory, InvalidMark, Refused
from unmixed.forms import has_deed_form, has_deeds_form, has_mark_form, is_word
from unmixed.pasts import ascending, has_mark, in_sequence, is_within, marks_of
from unmixed.walks import Walk


def is_mark(value):
    """Return whether any object is a mark: a tuple of a hand and a count."""
    return has_mark_form(value)


class History:
    """What some hands did; it never changes."""

    def __init__(self, deeds):
        wrong, order = judged(deeds)
        if wrong is not None:
            raise InvalidHistory(deeds)
        self._deeds = {hand: [copied(deed) for deed in deeds[hand]] for hand in sorted(deeds)}
        # It came with the judging and is asked for often; it stays, as the history does.
        self._order = order

    def __eq__(self, other):
        return isinstance(other, History) and self._deeds == other._deeds

    def hands(self):
        """Return the ascending list of the hands."""
        return list(self._deeds)

    def deeds(self, hand):
        """Return the list of a hand's deeds, in their sequence."""
        if not is_word(hand) or hand not in self._deeds:
            raise InvalidHand(hand)
        return [copied(deed) for deed in self._deeds[hand]]

    def things(self):
        """Return the ascending list of the marks of all puts."""
        return [(hand, at) for hand in self._deeds for at, deed in enumerate(self._deeds[hand]) if deed[0] == "put"]

    def size(self):
        """Return the number of the deeds."""
        return sum([len(self._deeds[hand]) for hand in self._deeds])

    def order(self):
        """Return the one order of the things."""
        return list(self._order)


def copied(deed):
    """Return a deed whose past is a new dictionary, hands ascending."""
    return deed[:-1] + (ascending(deed[-1]),)


def first_wrong(deeds):
    """Return the first point of a history that any object does not meet, with the least mark, None if it meets all."""
    wrong, _ = judged(deeds)
    return wrong


def judged(deeds):
    """Return what first_wrong tells of any object and, where this is None, the order of the things."""
    if not has_deeds_form(deeds):
        return ("form", None), []
    pasts = {(hand, at): deed[-1] for hand in sorted(deeds) for at, deed in enumerate(deeds[hand])}
    for mark in pasts:
        if pasts[mark].get(mark[0], 0) != mark[1]:
            return ("own", mark), []
    for mark in pasts:
        if not has_only(deeds, pasts[mark]):
            return ("there", mark), []
    for mark in pasts:
        if not is_closed(pasts, pasts[mark]):
            return ("closed", mark), []
    wrong, order = judged_places(deeds, pasts)
    if not wrong:
        return None, order
    least = min(wrong)
    return (wrong[least], least), []


def has_only(deeds, view):
    """Return whether a view has only deeds that there are."""
    return all([hand in deeds and view[hand] <= len(deeds[hand]) for hand in view])


def is_closed(pasts, view):
    """Return whether a view has, with each of its deeds, all of that deed's past."""
    return all([is_within(pasts[mark], view) for mark in marks_of(view)])


def judged_places(deeds, pasts):
    """Return the words of the deeds that do not fit the order of their pasts, by marks, and the order of the others.

    Deeds with such a one in their past are passed over: their past has no order.
    """
    walk = Walk()
    wrong = {}
    for mark in in_sequence(pasts):
        deed = deeds[mark[0]][mark[1]]
        past = pasts[mark]
        if any([has_mark(past, other) for other in wrong]):
            continue
        if not is_fitting(deed, [thing for thing in walk.listed if has_mark(past, thing)]):
            wrong[mark] = "beside" if deed[0] == "put" else "struck"
        elif deed[0] == "put":
            walk.place(mark, deed[2], deed[3])
    return wrong, walk.listed


def is_fitting(deed, order):
    """Return whether a put's neighbours stand side by side in the order of its past, or a struck thing stands in it."""
    if deed[0] == "strike":
        return deed[1] in order
    fenced = [None, *order, None]
    return (deed[2], deed[3]) in list(zip(fenced, fenced[1:]))


def past_of(history, mark):
    """Return the past of a deed, hands ascending."""
    check_history(history)
    check_mark(history, mark)
    return history.deeds(mark[0])[mark[1]][-1]


def has_heard(history, one, other):
    """Return whether the other deed is in the past of the one."""
    check_history(history)
    check_mark(history, one)
    check_mark(history, other)
    return has_mark(past_of(history, one), other)


def grown(history, hand, deed):
    """Return the history with one deed more of a hand, behind its others."""
    check_history(history)
    check_hand(hand)
    if not has_deed_form(deed):
        raise InvalidDeed(deed)
    deeds = {other: history.deeds(other) for other in history.hands()}
    deeds[hand] = deeds.get(hand, []) + [deed]
    if first_wrong(deeds) is not None:
        raise Refused(deed)
    return History(deeds)


def all_pasts(history):
    """Return the dictionary from the marks of all deeds, ascending, to their pasts."""
    return {(hand, at): deed[-1] for hand in history.hands() for at, deed in enumerate(history.deeds(hand))}


def has_deed(history, value):
    """Return whether any object is the mark of a deed of a history."""
    if not has_mark_form(value) or value[0] not in history.hands():
        return False
    return value[1] < len(history.deeds(value[0]))


def check_history(history):
    """Raise InvalidHistory for what is no history."""
    if not isinstance(history, History):
        raise InvalidHistory(history)


def check_hand(hand):
    """Raise InvalidHand for what is no hand; it need not have deeds."""
    if not is_word(hand):
        raise InvalidHand(hand)


def check_mark(history, mark):
    """Raise InvalidMark for what is no mark of a deed of a history."""
    if not has_deed(history, mark):
        raise InvalidMark(mark)
