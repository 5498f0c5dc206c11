"""Histories: what hands did, each deed with the past that its hand had seen by then."""

from unmixed.errors import InvalidDeed, InvalidHand, InvalidHistory, InvalidMark, Refused
from unmixed.forms import has_deed_form, has_mark_form, is_word
from unmixed.judging import is_fitting, is_view_among, judged
from unmixed.pasts import ascending, has_mark


def is_mark(value):
    """Return whether any object is a mark: a tuple of a hand and a count."""
    return has_mark_form(value)


class History:
    """What some hands did; it never changes.

    The modules of the package read its attributes: what is asked again and again is worked out once. They change none
    of them, and return none of the lists and dictionaries in them.
    """

    def __init__(self, deeds):
        wrong, walk = judged(deeds)
        if wrong is not None:
            raise InvalidHistory(deeds)
        self.keep({hand: [copied(deed) for deed in deeds[hand]] for hand in sorted(deeds)}, walk)

    def __eq__(self, other):
        return isinstance(other, History) and self.by_hands == other.by_hands

    def keep(self, by_hands, walk):
        """Take deeds that make a history, by ascending hands, and the walk of its things."""
        self.by_hands = by_hands
        self.walk = walk
        self.counts = {hand: len(by_hands[hand]) for hand in by_hands}
        self.by_marks = {(hand, at): deed for hand in by_hands for at, deed in enumerate(by_hands[hand])}
        self.neighbours = {mark: (deed[2], deed[3]) for mark, deed in self.by_marks.items() if deed[0] == "put"}
        self.strikes = [(mark, deed[1]) for mark, deed in self.by_marks.items() if deed[0] == "strike"]

    def hands(self):
        """Return the ascending list of the hands."""
        return list(self.by_hands)

    def deeds(self, hand):
        """Return the list of a hand's deeds, in their sequence."""
        if not is_word(hand) or hand not in self.by_hands:
            raise InvalidHand(hand)
        return [copied(deed) for deed in self.by_hands[hand]]

    def things(self):
        """Return the ascending list of the marks of all puts."""
        return list(self.neighbours)

    def size(self):
        """Return the number of the deeds."""
        return len(self.by_marks)


def copied(deed):
    """Return a deed whose past is a new dictionary, hands ascending."""
    return deed[:-1] + (ascending(deed[-1]),)


def first_wrong(deeds):
    """Return the first point of a history that any object does not meet, with the least mark, None if it meets all."""
    wrong, _ = judged(deeds)
    return wrong


def past_of(history, mark):
    """Return the past of a deed, hands ascending."""
    check_history(history)
    check_mark(history, mark)
    return ascending(history.by_marks[mark][-1])


def has_heard(history, one, other):
    """Return whether the other deed is in the past of the one."""
    check_history(history)
    check_mark(history, one)
    check_mark(history, other)
    return has_mark(history.by_marks[one][-1], other)


def grown(history, hand, deed):
    """Return the history with one deed more of a hand, behind its others."""
    check_history(history)
    check_hand(hand)
    if not has_deed_form(deed):
        raise InvalidDeed(deed)
    past = deed[-1]
    if past.get(hand, 0) != history.counts.get(hand, 0) or not is_view_among(history.by_hands, past):
        raise Refused(deed)
    if not is_fitting(history.walk, deed):
        raise Refused(deed)
    return with_deed(history, hand, deed)


def with_deed(history, hand, deed):
    """Return the history with one deed more of a hand, of which it is known that it makes one."""
    told = history.by_hands.get(hand, [])
    more = {**history.by_hands, hand: [*told, copied(deed)]}
    walk = history.walk
    if deed[0] == "put":
        walk = walk.with_thing((hand, len(told)), deed[2], deed[3])
    return made_of({other: more[other] for other in sorted(more)}, walk)


def made_of(by_hands, walk):
    """Return the history of deeds of which it is known that they make one."""
    history = History({})
    history.keep(by_hands, walk)
    return history


def part_of(history, view):
    """Return the history of a view's deeds."""
    return made_of({hand: history.by_hands[hand][:view[hand]] for hand in sorted(view)}, history.walk.within(view))


def has_deed(history, value):
    """Return whether any object is the mark of a deed of a history."""
    return has_mark_form(value) and value in history.by_marks


def check_history(history):
    """Raise InvalidHistory for what is no history."""
    if not isinstance(history, History):
        raise InvalidHistory(history)


def check_hand(hand):
    """Raise InvalidHand for what is no hand; it need not have deeds."""
    if not is_word(hand):
        raise InvalidHand(hand)


def check_mark(history, mark):
    """Raise InvalidMark for what is no mark of a deed of a history."""
    if not has_deed(history, mark):
        raise InvalidMark(mark)
