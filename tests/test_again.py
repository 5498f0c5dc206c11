import random
import timeit
import unittest

from asking import answered, calls_of, copy_of, spoil
from samples import HANDS, largest_deeds, many_typed, random_deeds, small_deeds, talk_deeds
from unmixed.between import why_between
from unmixed.histories import History, grown
from unmixed.orders import order, order_in
from unmixed.shown import neighbours_at, put_at, row, rows_seen, seen_by, shown, strike_at
from unmixed.versions import changes
from unmixed.views import heads, is_view, least_view, part, whole


def small(seed, many):
    return [talk_deeds(), *many_typed(seed, many, 6, hands=4), *small_deeds(seed, many, 6, hands=4)]


def remade(history):
    """The same history, made anew of its deeds."""
    return History({hand: history.deeds(hand) for hand in history.hands()})


def descent(chance, history, steps):
    """Histories that come of one another by deeds more, and by parts."""
    found = [history]
    for _ in range(steps):
        hand, history = chance.choice(HANDS[:4]), found[-1]
        length = len(row(history, seen_by(history, hand)))
        chosen = chance.random()
        if chosen < 0.3 and length:
            found.append(strike_at(history, hand, chance.randrange(length)))
        elif chosen < 0.8:
            found.append(put_at(history, hand, chance.randint(0, length), "new"))
        elif chosen < 0.9:
            view = whole(history)
            left = chance.choice([None, *order(history)])
            fenced = [None, *order(history), None]
            deed = ("put", "all", left, fenced[fenced.index(left) + 1], view)
            found.append(grown(history, hand, deed))
        elif history.size():
            mark = chance.choice([(hand, at) for hand in history.hands() for at in range(len(history.deeds(hand)))])
            found.append(part(history, least_view(history, [mark])))
    return found


class Again(unittest.TestCase):
    """[2]: equal calls return equal results, and new ones"""

    def test_asked_again_after_what_was_returned_has_been_changed(self):
        for deeds in small(111, 6):
            history = History(deeds)
            calls = calls_of(history)
            told = [repr(answered(history, call, copy_of(passed))) for call, passed in calls]
            for call, passed in calls:
                given = copy_of(passed)
                one, other = answered(history, call, given), answered(history, call, given)
                self.assertEqual(repr(one), repr(other))
                if isinstance(one, (list, tuple, dict)):
                    spoil(one)
                if isinstance(one, (list, dict)):
                    self.assertNotEqual(repr(one), repr(other))
                self.assertEqual(repr(given), repr(passed), call)
                self.assertEqual(repr(answered(history, call, copy_of(passed))), repr(other), call)
            self.assertEqual([repr(answered(history, call, copy_of(passed))) for call, passed in calls], told)
            self.assertEqual(history, History(deeds))

    def test_in_any_sequence_and_between_calls_of_other_histories(self):
        chance = random.Random(112)
        histories = [History(deeds) for deeds in small(112, 4)]
        calls = [(history, call, passed) for history in histories for call, passed in calls_of(history)]
        told = [repr(answered(remade(history), call, passed)) for history, call, passed in calls]
        asked = list(range(len(calls))) * 2
        chance.shuffle(asked)
        for at in asked:
            self.assertEqual(repr(answered(*calls[at])), told[at])

    def test_histories_that_are_equal_tell_alike(self):
        chance = random.Random(113)
        many = 0
        for deeds in [{}, *small(113, 4)]:
            for history in descent(chance, History(deeds), 6):
                other = remade(history)
                self.assertEqual(history, other)
                if len(history.things()) < 8 and history.size() < 9:
                    for call, passed in calls_of(history):
                        found = repr(answered(history, call, passed))
                        self.assertEqual(found, repr(answered(other, call, passed)), call)
                    many += 1
        self.assertGreater(many, 30)

    def test_larger_histories_that_are_equal_tell_alike(self):
        chance = random.Random(114)
        history = descent(chance, History(random_deeds(chance, HANDS, 8, heard=0.5)), 12)[-1]
        while history.size() < 16:
            history = descent(chance, history, 4)[-1]
        other = remade(history)
        for call, passed in calls_of(history, small=False)[::7]:
            self.assertEqual(repr(answered(history, call, passed)), repr(answered(other, call, passed)), call)

    def test_histories_that_come_of_others_change_nothing_in_them(self):
        chance = random.Random(115)
        for deeds in small(115, 3):
            line = descent(chance, History(deeds), 6)
            told = [repr([(hand, history.deeds(hand)) for hand in history.hands()]) for history in line]
            orders = [order(history) for history in line]
            for history in line:
                for hand in history.hands():
                    spoil(history.deeds(hand))
                spoil(order(history))
            self.assertEqual([repr([(hand, x.deeds(hand)) for hand in x.hands()]) for x in line], told)
            self.assertEqual([order(history) for history in line], orders)


def took(call):
    """The least time that few calls took, one after the other, so that what else the machine does counts little."""
    return min(timeit.repeat(call, number=4, repeat=100))


def one_step():
    """What takes a small part of the time of a call that goes over a history of thirty deeds some times."""
    return {(hand, at): (at, None) for hand in HANDS for at in range(6)}


class Time(unittest.TestCase):
    """[3]: calls with views, and puts and strikes at places, one after the other, measured in steps"""

    def setUp(self):
        self.deeds = largest_deeds()
        self.history = History(self.deeds)
        self.whole, self.seen = whole(self.history), seen_by(self.history, "bob")

    def assert_takes(self, steps, calls):
        step = took(one_step)
        for name, call in calls.items():
            self.assertLess(took(call) / step, steps, name)

    def test_calls_with_views(self):
        history, view, seen = self.history, self.whole, self.seen
        self.assert_takes(10, {
            "is_view": lambda: is_view(history, view), "order_in": lambda: order_in(history, seen),
            "row": lambda: row(history, view), "shown": lambda: shown(history, seen),
            "neighbours_at": lambda: neighbours_at(history, view, 2), "heads": lambda: heads(history, view),
        })
        self.assert_takes(40, {
            "changes": lambda: changes(history, seen, view), "part": lambda: part(history, seen),
        })

    def test_calls_with_hands_and_places(self):
        history, hand, thing = self.history, "bob", order(self.history)[-1]
        self.assert_takes(40, {
            "put_at": lambda: put_at(history, hand, 1, "x"), "strike_at": lambda: strike_at(history, hand, 1),
            "rows_seen": lambda: rows_seen(history, hand), "why_between": lambda: why_between(history, thing),
        })

    def test_histories_made(self):
        self.assert_takes(180, {"History": lambda: History(self.deeds)})


if __name__ == "__main__":
    unittest.main()
