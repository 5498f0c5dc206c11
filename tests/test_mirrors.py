import itertools
import random
import time
import unittest

import kinwords
from samples import (
    HANDS, back_deeds, both_deeds, chain_deeds, five_deeds, four_deeds, largest_deeds, late_deeds, lead_deeds,
    many_typed, small_deeds, talk_deeds, torn_deeds, wide_deeds,
)
from slow import neighbours_of, views_of
from unmixed.errors import InvalidHistory, InvalidMark
from unmixed.firsts import brother_orders, choice_of, first_by, is_first
from unmixed.histories import History
from unmixed.mirrors import (
    any_both, both_brothers, both_orders, is_kept_both, is_mirror, is_torn, many_both, own_bars, torn_at, torn_views,
)
from unmixed.orders import order
from unmixed.views import part
from wrongs import NO_HISTORIES, assert_errors, no_lefts, no_listings

A, B, C, D, E = [(hand, 0) for hand in HANDS]
X = ("put", "x", None, None, {})
HAND_SAMPLES = [
    {}, both_deeds(), talk_deeds(), four_deeds(), five_deeds(), lead_deeds(), chain_deeds(), torn_deeds(), late_deeds(),
    back_deeds(),
]


def torn_often(seed, many, size):
    """Histories of three to five hands that saw few of the others' things, among which many are torn."""
    chance = random.Random(seed)
    return [wide_deeds(chance, HANDS[:chance.randint(3, 5)], size, strikes=0.05, ended=False) for _ in range(many)]


def small(seed, size=6):
    found = [*HAND_SAMPLES, *torn_often(seed, 60, size), *small_deeds(seed, 15, size), *many_typed(seed, 10, size)]
    return [(History(deeds), neighbours_of(deeds)) for deeds in found if len(neighbours_of(deeds)) <= size]


class Mirror(unittest.TestCase):
    """[41]"""

    def test_the_documents_example(self):
        self.assertIs(is_mirror(History(late_deeds()), [A, ("cy", 1), ("cy", 2), B, C]), False)

    def test_ordinary_lists(self):
        five = History(five_deeds())
        self.assertIs(is_mirror(five, [A, B, E, D, C]), True)
        self.assertIs(is_mirror(five, [A, D, B, E, C]), False)
        self.assertIs(is_mirror(five, [A, D, E, B, C]), False)
        self.assertIs(is_mirror(five, [A, B, D, C, E]), False)
        self.assertIs(is_mirror(history=History(talk_deeds()), value=[A, C, B, ("ann", 1), ("ann", 2)]), True)

    def test_nothing_is_asked_of_the_rows_end(self):
        both = History(both_deeds())
        self.assertIs(is_mirror(both, [A, B, ("bob", 1), ("ann", 1)]), True)
        self.assertIs(is_mirror(both, [A, B, ("ann", 1), ("bob", 1)]), True)
        self.assertIs(is_mirror(both, [("ann", 1), A, B, ("bob", 1)]), False)

    def test_just_these(self):
        for history, neighbours in small(411):
            for things in kinwords.lists_of(neighbours)[::3]:
                self.assertIs(is_mirror(history, things), kinwords.is_mirror_list(neighbours, things))

    def test_any_object(self):
        lead = History(lead_deeds())
        for value in no_listings(lead):
            self.assertIs(is_mirror(lead, value), False, repr(value))
        self.assertIs(is_mirror(History({}), []), True)
        for value in [None, (), {}, [[]], [A], False]:
            self.assertIs(is_mirror(History({}), value), False)


class Bars(unittest.TestCase):
    """[42]: own bars"""

    def test_the_documents_examples(self):
        self.assertEqual(own_bars(History(torn_deeds())), [])
        self.assertEqual(own_bars(history=History(late_deeds())), [(("cy", 1), ("cy", 2))])

    def test_what_hangs_on_what_hangs_counts_too(self):
        deeds = late_deeds()
        past = {"ann": 1, "bob": 1, "cy": 3}
        deeds["dan"] = [("put", "w", ("cy", 2), B, past), ("put", "v", ("cy", 1), ("cy", 2), {**past, "dan": 1})]
        self.assertEqual(own_bars(History(deeds)), [
            (("cy", 1), ("cy", 2)), (("cy", 1), D), (("cy", 1), ("dan", 1)),
        ])

    def test_what_leans_over_others_is_none(self):
        deeds = four_deeds()
        past = {"ann": 1, "cy": 2}
        deeds["dan"] = [("put", "w", ("cy", 1), C, past), ("put", "v", ("cy", 1), D, {**past, "dan": 1})]
        self.assertEqual(own_bars(History(deeds)), [])

    def test_random_histories(self):
        many = 0
        for deeds in [*torn_often(421, 150, 9), *small_deeds(421, 40, 12)]:
            found = own_bars(History(deeds))
            self.assertEqual(found, kinwords.own_bars(neighbours_of(deeds)))
            many += len(found)
        self.assertGreater(many, 10)


class Brothers(unittest.TestCase):
    """[42]: the lists of brothers"""

    def test_the_documents_example(self):
        self.assertEqual(both_brothers(History(four_deeds()), None), [[A, C, B], [B, A, C]])

    def test_other_places(self):
        self.assertEqual(both_brothers(History(torn_deeds()), None), [])
        self.assertEqual(both_brothers(History(torn_deeds()), A), [[("ann", 1)]])
        self.assertEqual(both_brothers(history=History(torn_deeds()), left=C), [[]])
        self.assertEqual(both_brothers(History(talk_deeds()), A), [[B, C, ("ann", 1)], [C, B, ("ann", 1)]])
        self.assertEqual(both_brothers(History({}), None), [[]])

    def test_behind_the_thing_of_the_way_only_clean_ones(self):
        # x stands behind l, with r as right neighbour; y behind l, too, does not lean on r: it stands ahead of x.
        deeds = {
            "ann": [X], "bob": [X],
            "cy": [("put", "x", A, B, {"ann": 1, "bob": 1})],
            "dan": [("put", "y", A, None, {"ann": 1})],
        }
        history = History(deeds)
        self.assertEqual(brother_orders(history, A), [[C, D], [D, C]])
        self.assertEqual(both_brothers(history, A), [[D, C]])
        deeds["dan"] = [("put", "y", A, B, {"ann": 1, "bob": 1})]
        self.assertEqual(both_brothers(History(deeds), A), [[C, D], [D, C]])
        deeds["eve"] = [("put", "z", D, B, {"ann": 1, "bob": 1, "dan": 1})]
        self.assertEqual(both_brothers(History(deeds), A), [[C, D], [D, C]])

    def test_just_these(self):
        many = 0
        for history, neighbours in small(422):
            for left in [None, *neighbours]:
                found = both_brothers(history, left)
                self.assertEqual(found, kinwords.both_brothers(neighbours, left))
                many += len(brother_orders(history, left)) - len(found)
        self.assertGreater(many, 50)


class Both(unittest.TestCase):
    """[43]"""

    def test_the_documents_examples(self):
        torn, four, late = [History(deeds) for deeds in [torn_deeds(), four_deeds(), late_deeds()]]
        self.assertEqual([is_torn(torn), any_both(torn), torn_at(torn)], [True, None, [None]])
        self.assertEqual([many_both(four), both_orders(four)], [2, [[A, ("cy", 1), C, B], [B, A, ("cy", 1), C]]])
        self.assertEqual([torn_at(late), is_torn(late)], [[None], True])

    def test_torn_ones_have_none(self):
        for deeds in [torn_deeds(), late_deeds(), five_deeds()]:
            torn = History(deeds)
            told = [both_orders(history=torn), many_both(history=torn), any_both(history=torn), is_torn(history=torn)]
            self.assertEqual(told, [[], 0, None, True])

    def test_the_empty_history(self):
        empty = History({})
        self.assertEqual([both_orders(empty), many_both(empty), any_both(empty)], [[[]], 1, []])
        self.assertEqual([is_torn(empty), torn_at(history=empty)], [False, []])

    def test_just_these(self):
        torn = 0
        for history, neighbours in small(431):
            wanted = kinwords.both_lists(neighbours)
            self.assertEqual(both_orders(history), wanted)
            self.assertEqual(many_both(history), len(wanted))
            self.assertIs(is_torn(history), not wanted)
            if wanted:
                self.assertIn(any_both(history), wanted)
                self.assertTrue(all(is_first(history, x) and is_mirror(history, x) for x in both_orders(history)))
            else:
                self.assertIsNone(any_both(history))
                torn += 1
        self.assertGreater(torn, 4)

    def test_they_are_choices(self):
        for history, neighbours in small(432):
            lefts = [left for left in [None, *sorted(neighbours)] if kinwords.brothers(neighbours, left)]
            lists = [both_brothers(history, left) for left in lefts]
            choices = [dict(zip(lefts, chosen)) for chosen in itertools.product(*lists)]
            if own_bars(history):
                choices = []
            self.assertEqual(sorted(first_by(history, choice) for choice in choices), both_orders(history))
            self.assertTrue(all(choice_of(history, first_by(history, choice)) == choice for choice in choices))

    def test_torn_just_if_there_are_bars_or_lefts(self):
        found = set()
        for history, neighbours in small(433):
            lefts = [left for left in [None, *sorted(neighbours)] if kinwords.both_brothers(neighbours, left) == []]
            self.assertEqual(torn_at(history), lefts)
            self.assertIs(is_torn(history), bool(own_bars(history) or lefts))
            found.update(lefts)
        self.assertIn(None, found)

    def test_torn_at_things(self):
        history = History(within_deeds(torn_deeds()))
        self.assertEqual(torn_at(history), [("zoe", 0)])
        self.assertEqual(both_brothers(history, ("zoe", 0)), [])
        self.assertEqual(both_brothers(history, None), [[("zoe", 0)]])

    def test_seven_things(self):
        hands = [*HANDS, "fay", "gus"]
        apart = History({hand: [X] for hand in hands})
        begun = time.perf_counter()
        self.assertEqual([many_both(apart), len(both_orders(apart)), is_torn(apart)], [5040, 5040, False])
        self.assertEqual([len(any_both(apart)), len(both_brothers(apart, None)), torn_at(apart)], [7, 5040, []])
        for deeds in torn_often(434, 20, 7):
            history = History(deeds)
            self.assertIs(is_torn(history), kinwords.is_torn(neighbours_of(deeds)))
            self.assertEqual(len(both_orders(history)), many_both(history))
        self.assertLess(time.perf_counter() - begun, 30)


def within_deeds(deeds):
    """The same history all of whose things hang on a first one, of zoe."""
    def behind(mark):
        return ("zoe", 0) if mark is None else mark
    return {
        "zoe": [X],
        **{hand: [("put", word, behind(left), right, {**past, "zoe": 1}) for _, word, left, right, past in deeds[hand]]
           for hand in deeds},
    }


class Kept(unittest.TestCase):
    """[44]: the order"""

    def test_the_documents_example(self):
        self.assertIs(is_kept_both(History(four_deeds())), False)

    def test_ordinary_ones(self):
        for deeds, kept in [({}, True), (talk_deeds(), True), (both_deeds(), True), (torn_deeds(), False)]:
            self.assertIs(is_kept_both(history=History(deeds)), kept)

    def test_it_is_said_of_the_order(self):
        kept = 0
        for deeds in [*torn_often(441, 60, 10), *small_deeds(441, 40, 12)]:
            history = History(deeds)
            found = is_kept_both(history)
            self.assertIs(found, kinwords.is_mirror_list(neighbours_of(deeds), order(history)))
            kept += found
        self.assertTrue(20 < kept < 80)

    def test_of_two_hands_it_always_is(self):
        for deeds in [*small_deeds(442, 60, 12, hands=2), *many_typed(442, 40, 20, hands=2)]:
            self.assertIs(is_kept_both(History(deeds)), True)

    def test_the_largest_history_is_asked_at_once(self):
        history = History(largest_deeds())
        begun = time.perf_counter()
        self.assertIs(is_kept_both(history), is_mirror(history, order(history)))
        self.assertIsInstance(own_bars(history), list)
        self.assertLess(time.perf_counter() - begun, 5)


class TornViews(unittest.TestCase):
    """[44]: the least torn views"""

    def test_the_documents_example(self):
        self.assertEqual(torn_views(History(torn_deeds())), [{"ann": 2, "bob": 2, "cy": 1}])

    def test_none(self):
        for deeds in [{}, talk_deeds(), four_deeds()]:
            self.assertEqual(torn_views(history=History(deeds)), [])

    def test_less_than_all(self):
        deeds = {"dan": [("put", "n", None, None, {})], **torn_deeds()}
        deeds["cy"].append(("strike", C, {"cy": 1}))
        found = torn_views(History(deeds))
        self.assertEqual([list(view.items()) for view in found], [[("ann", 2), ("bob", 2), ("cy", 1)]])

    def test_several(self):
        deeds = torn_deeds()
        deeds["dan"] = [("put", "n", B, C, {"bob": 1, "cy": 1})]
        found = torn_views(History(deeds))
        self.assertEqual(found, [{"ann": 2, "bob": 1, "cy": 1, "dan": 1}, {"ann": 2, "bob": 2, "cy": 1}])

    def test_against_all_views(self):
        many = set()
        begun = time.perf_counter()
        samples = [*torn_often(443, 25, 6), *torn_often(444, 4, 7), *small_deeds(443, 10, 5)]
        for deeds in [five_deeds(), late_deeds(), *samples]:
            history, neighbours = History(deeds), neighbours_of(deeds)
            if history.size() > 7:
                continue
            torn = [view for view in views_of(deeds) if kinwords.is_torn(kinwords.within(neighbours, view))]
            least = [view for view in torn if not any(
                other != view and all(view.get(hand, 0) >= other[hand] for hand in other) for other in torn)]
            found = torn_views(history)
            wanted = sorted(list(view.items()) for view in least)
            self.assertEqual([list(view.items()) for view in found], wanted)
            self.assertTrue(all(is_torn(part(history, view)) for view in found))
            many.add(len(found))
        self.assertTrue({0, 1, 2} <= many)
        self.assertLess(time.perf_counter() - begun, 30)

    def test_seven_deeds_at_once(self):
        hands = [*HANDS, "fay", "gus"]
        begun = time.perf_counter()
        self.assertEqual(torn_views(History({hand: [X] for hand in hands})), [])
        self.assertLess(time.perf_counter() - begun, 5)


class Wrong(unittest.TestCase):
    """[2]"""

    def test_wrong_arguments(self):
        chain = History(chain_deeds())
        histories = (InvalidHistory, NO_HISTORIES)
        assert_errors(self, is_mirror, {"history": chain, "value": None}, {"history": histories})
        good = {"history": chain, "left": None}
        assert_errors(self, both_brothers, good, {"history": histories, "left": (InvalidMark, no_lefts(chain))})
        for call in [own_bars, both_orders, many_both, any_both, is_torn, torn_at, is_kept_both, torn_views]:
            assert_errors(self, call, {"history": chain}, {"history": histories})


if __name__ == "__main__":
    unittest.main()
