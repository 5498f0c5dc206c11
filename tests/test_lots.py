import itertools
import math
import random
import time
import unittest

import kinwords
from samples import HANDS, four_deeds, largest_deeds, lead_deeds, many_typed, small_deeds, talk_deeds, wide_deeds
from slow import neighbours_of
from unmixed.errors import InvalidHistory, InvalidMark, InvalidOrder, Refused
from unmixed.histories import History
from unmixed.lots import (
    all_by_lots, asked_in_lots, dealing_of, keeps_three, list_by, lot_of, lots, many_by_lots, many_set,
)
from unmixed.orders import order
from wrongs import HUGE, NO_HISTORIES, assert_error, assert_errors, no_listings, no_things

A, B, C, D, E = [(hand, 0) for hand in HANDS]
X = ("put", "x", None, None, {})


def lots_deeds():
    """The document's example."""
    return {
        "ann": [("put", "l", None, None, {})],
        "bob": [("put", "r", None, None, {}), ("put", "x", A, B, {"ann": 1, "bob": 1})],
        "cy": [("put", "y", A, None, {"ann": 1})],
    }


def ahead_deeds():
    """x asks of a lot; z was put between two that (H) tells apart, one of them with the end as right neighbour."""
    return {
        "ann": [("put", "l", None, None, {})],
        "bob": [("put", "r", None, None, {})],
        "cy": [("put", "x", A, B, {"ann": 1, "bob": 1})],
        "dan": [("put", "y", A, None, {"ann": 1})],
        "eve": [("put", "z", D, C, {"ann": 1, "bob": 1, "cy": 1, "dan": 1})],
    }


def apart_deeds(hands, many):
    """Each hand puts alone between the same neighbours as all others, once behind each of so many things of a first."""
    deeds = {"zoe": [("put", "x", None, None, {})]}
    for at in range(1, many):
        deeds["zoe"].append(("put", "x", ("zoe", at - 1), None, {"zoe": at}))
    for hand in hands:
        deeds[hand] = []
        for at in range(many):
            right = ("zoe", at + 1) if at + 1 < many else None
            past = {"zoe": many, hand: at} if at else {"zoe": many}
            deeds[hand].append(("put", "y", ("zoe", at), right, past))
    return deeds


def small(seed, size=5):
    chance = random.Random(seed)
    found = [{}, lots_deeds(), lead_deeds(), four_deeds(), talk_deeds(), *small_deeds(seed, 25, size)]
    found += [*many_typed(seed, 10, size), ahead_deeds()]
    found += [wide_deeds(chance, HANDS, size, strikes=0, ended=False) for _ in range(40)]
    return [(History(deeds), neighbours_of(deeds)) for deeds in found if len(neighbours_of(deeds)) <= size]


def keepers(neighbours):
    """All lists of all things that keep (F), (G) and (H)."""
    return [x for x in kinwords.lists_of(neighbours)
            if all(reason[0] == "mark" for reason in kinwords.reasons(neighbours, x))]


def lots_of(neighbours):
    alike = itertools.groupby(sorted(neighbours, key=lambda x: (repr(neighbours[x]), x)), key=neighbours.get)
    return sorted(things for things in [list(group) for _, group in alike] if len(things) > 1)


class Lots(unittest.TestCase):
    """[54]"""

    def test_the_documents_example(self):
        four = History(lots_deeds())
        self.assertEqual([lots(four), lot_of(four, ("bob", 1))], [[[A, B]], None])

    def test_lots_of_leads_and_of_one_alone(self):
        lead = History(lead_deeds())
        self.assertEqual(lots(history=lead), [[("ann", 1), B]])
        self.assertEqual([lot_of(lead, B), lot_of(history=lead, thing=A)], [[("ann", 1), B], None])
        self.assertEqual([lots(History({})), lots(History({"ann": [X]}))], [[], []])

    def test_several(self):
        history = History(apart_deeds(["ann", "bob", "cy"], 3))
        wanted = [[(hand, at) for hand in ["ann", "bob", "cy"]] for at in range(3)]
        self.assertEqual(lots(history), wanted)
        self.assertEqual([lot_of(history, ("bob", at)) for at in range(3)], wanted)
        self.assertIsNone(lot_of(history, ("zoe", 1)))

    def test_random_histories(self):
        many = 0
        for deeds in [*small_deeds(54, 40, 14), *many_typed(54, 40, 14)]:
            history, neighbours = History(deeds), neighbours_of(deeds)
            self.assertEqual(lots(history), lots_of(neighbours))
            for thing in neighbours:
                found = [lot for lot in lots_of(neighbours) if thing in lot]
                self.assertEqual(lot_of(history, thing), found[0] if found else None)
            many += len(lots(history))
        self.assertGreater(many, 20)


class Keeps(unittest.TestCase):
    """[55]: the judge"""

    def test_the_documents_example(self):
        self.assertIs(keeps_three(History(lots_deeds()), [A, ("bob", 1), C, B]), False)

    def test_each_rule(self):
        talk, lead, four = History(talk_deeds()), History(lead_deeds()), History(four_deeds())
        self.assertIs(keeps_three(talk, [A, C, B, ("ann", 1), ("ann", 2)]), True)
        self.assertIs(keeps_three(talk, [A, B, C, ("ann", 2), ("ann", 1)]), False)
        self.assertIs(keeps_three(talk, [A, B, ("ann", 1), C, ("ann", 2)]), False)
        self.assertIs(keeps_three(history=lead, value=[B, ("ann", 1), A]), True)
        self.assertIs(keeps_three(lead, [A, ("ann", 1), B]), False)
        self.assertIs(keeps_three(four, [C, B, A, ("cy", 1)]), True)

    def test_right_neighbours_count_as_they_stand_in_the_list(self):
        # cy/0 has bob/0 as right neighbour, dan/0 the end: it comes first, wherever bob/0 stands.
        history = History({**lots_deeds(), "dan": [("put", "z", A, ("bob", 1), {"ann": 1, "bob": 2})]})
        for first, last in [(A, B), (B, A)]:
            listed = list_by(history, [[first, last]])
            self.assertIs(keeps_three(history, listed), True)
        # Of x and y behind ann/0 that with the later right neighbour comes first.
        deeds = {
            "ann": [X], "bob": [X], "cy": [X], "dan": [("put", "x", A, B, {"ann": 1, "bob": 1})],
            "eve": [("put", "y", A, C, {"ann": 1, "cy": 1})],
        }
        history = History(deeds)
        self.assertIs(keeps_three(history, [A, E, D, B, C]), True)
        self.assertIs(keeps_three(history, [A, D, E, B, C]), False)
        self.assertIs(keeps_three(history, [A, D, E, C, B]), True)
        self.assertIs(keeps_three(history, [A, E, D, C, B]), False)

    def test_just_these(self):
        for history, neighbours in small(551):
            lists = keepers(neighbours)
            for things in kinwords.lists_of(neighbours):
                self.assertIs(keeps_three(history, things), things in lists)

    def test_the_order_is_one(self):
        for deeds in small_deeds(552, 30, 16):
            self.assertIs(keeps_three(History(deeds), order(History(deeds))), True)

    def test_any_object(self):
        lead = History(lead_deeds())
        for value in no_listings(lead):
            self.assertIs(keeps_three(lead, value), False, repr(value))
        self.assertIs(keeps_three(History({}), []), True)
        for value in [None, (), {}, [[]], [A], False]:
            self.assertIs(keeps_three(History({}), value), False)


class Dealings(unittest.TestCase):
    """[55]: dealings"""

    def test_the_documents_example(self):
        four = History(lots_deeds())
        self.assertEqual(list_by(four, [[B, A]]), [B, A, C, ("bob", 1)])
        self.assertEqual(dealing_of(four, [A, C, ("bob", 1), B]), [[A, B]])

    def test_none(self):
        empty, alone = History({}), History({"ann": [X]})
        self.assertEqual([list_by(empty, []), dealing_of(empty, [])], [[], []])
        self.assertEqual([list_by(history=alone, dealing=[]), dealing_of(history=alone, things=[A])], [[A], []])

    def test_the_order_is_that_of_the_lots_as_they_are(self):
        for deeds in [*small_deeds(553, 40, 16), *many_typed(553, 20, 20)]:
            history = History(deeds)
            self.assertEqual(list_by(history, lots(history)), order(history))
            self.assertEqual(dealing_of(history, order(history)), lots(history))

    def test_each_list_comes_of_its_dealing(self):
        for history, neighbours in small(554):
            found = lots_of(neighbours)
            dealings = [list(map(list, x)) for x in itertools.product(*[itertools.permutations(lot) for lot in found])]
            self.assertEqual(sorted(list_by(history, dealing) for dealing in dealings), keepers(neighbours))
            for dealing in dealings:
                listed = list_by(history, dealing)
                self.assertEqual(dealing_of(history, listed), dealing)
                for lot, dealt in zip(found, dealing):
                    self.assertEqual([thing for thing in listed if thing in lot], dealt)

    def test_larger_histories(self):
        chance = random.Random(555)
        for deeds in [largest_deeds(), apart_deeds(HANDS[:4], 4), *[wide_deeds(chance, HANDS, 14) for _ in range(10)]]:
            history, neighbours = History(deeds), neighbours_of(deeds)
            dealing = [chance.sample(lot, len(lot)) for lot in lots(history)]
            listed = list_by(history, dealing)
            self.assertTrue(all(reason[0] == "mark" for reason in kinwords.reasons(neighbours, listed)))
            self.assertEqual(dealing_of(history, listed), dealing)

    def test_what_is_no_dealing(self):
        four = History(lots_deeds())
        wrong = [
            None, True, 0, "", (), ([A, B],), {}, {0: [A, B]}, [], [[]], [[A]], [[A, B], []], [[A, B], [A, B]], [A, B],
            [(A, B)], [[A, A]], [[A, B, C]], [[A, B, A]], [[A, C]], [[A, ("bob", False)]], [[A, ["bob", 0]]],
            [[A, None]], [None], [[A, ("bob", HUGE)]], [[[A, B]]], History({}), InvalidOrder([[A, B]]),
        ]
        for dealing in wrong:
            assert_error(self, InvalidOrder, dealing, lambda: list_by(four, dealing))
        for dealing in [None, (), {}, [[]], [[A]]]:
            assert_error(self, InvalidOrder, dealing, lambda: list_by(History({}), dealing))
        self.assertEqual(list_by(History(lead_deeds()), [[B, ("ann", 1)]]), [B, ("ann", 1), A])

    def test_lots_stand_in_their_order(self):
        history = History(apart_deeds(["ann", "bob"], 2))
        first, second = [A, B], [("ann", 1), ("bob", 1)]
        self.assertEqual(list_by(history, [first[::-1], second])[1:3], [B, A])
        swapped = [second, first]
        assert_error(self, InvalidOrder, swapped, lambda: list_by(history, swapped))

    def test_lists_that_do_not_keep_the_three_are_refused(self):
        for history, neighbours in small(556, 4):
            lists = keepers(neighbours)
            for things in kinwords.lists_of(neighbours):
                if things not in lists:
                    assert_error(self, Refused, things, lambda: dealing_of(history, things))


class All(unittest.TestCase):
    """[56]"""

    def test_the_documents_example(self):
        four = History(lots_deeds())
        self.assertEqual(many_by_lots(four), 2)
        self.assertEqual(all_by_lots(four), [[A, C, ("bob", 1), B], [B, A, C, ("bob", 1)]])

    def test_just_these(self):
        for history, neighbours in small(561):
            lists = keepers(neighbours)
            self.assertEqual(all_by_lots(history=history), lists)
            self.assertEqual(many_by_lots(history=history), len(lists))

    def test_the_empty_history(self):
        self.assertEqual([all_by_lots(History({})), many_by_lots(History({}))], [[[]], 1])

    def test_seven_things(self):
        hands = [*HANDS, "fay", "gus"]
        apart = History({hand: [X] for hand in hands})
        begun = time.perf_counter()
        self.assertEqual(many_by_lots(apart), 5040)
        self.assertEqual(all_by_lots(apart), kinwords.lists_of({(hand, 0): (None, None) for hand in hands}))
        self.assertLess(time.perf_counter() - begun, 5)

    def test_many_things(self):
        begun = time.perf_counter()
        self.assertEqual(many_by_lots(History(apart_deeds(HANDS, 4))), 120 ** 4)
        self.assertLess(time.perf_counter() - begun, 5)


def asked_slowly(neighbours, lists):
    """[57], of all lists that keep the three."""
    def is_ahead(things, thing):
        return kinwords.stands_ahead(things, thing, neighbours[thing][1])
    pairs = [pair for lot in lots_of(neighbours) for pair in itertools.permutations(lot, 2)]
    return sorted((one, other) for one, other in pairs if any(
        all(is_ahead(x, thing) == (x.index(one) < x.index(other)) for x in lists) for thing in neighbours))


class Asked(unittest.TestCase):
    """[57]"""

    def test_the_documents_example(self):
        four = History(lots_deeds())
        self.assertEqual([asked_in_lots(four), many_set(four)], [[(A, B)], 1])

    def test_none_asked(self):
        for deeds, many in [({}, 1), ({"ann": [X]}, 1), (lead_deeds(), 2), (talk_deeds(), 2)]:
            history = History(deeds)
            self.assertEqual([asked_in_lots(history=history), many_set(history=history)], [[], many])

    def test_over_right_neighbours_it_is_the_other_way_about(self):
        # z stands ahead of x just if y does, that is, if the end stands behind r: always, and nothing is asked.
        self.assertEqual(asked_in_lots(History(ahead_deeds())), [(A, B)])
        # w stands ahead of x just if y does, that is, if bob/0 stands ahead of cy/0.
        deeds = {
            "ann": [X], "bob": [X], "cy": [X],
            "dan": [("put", "x", A, B, {"ann": 1, "bob": 1})],
            "eve": [("put", "y", A, C, {"ann": 1, "cy": 1})],
        }
        past = {"ann": 1, "bob": 1, "cy": 1, "dan": 1, "eve": 1}
        deeds["ann"].append(("put", "w", E, D, past))
        history = History(deeds)
        self.assertEqual(asked_in_lots(history), asked_slowly(neighbours_of(deeds), keepers(neighbours_of(deeds))))
        self.assertEqual(asked_in_lots(history), [(A, B), (A, C), (B, C)])
        self.assertEqual(many_set(history), 1)

    def test_just_these(self):
        many = set()
        chance = random.Random(578)
        wide = [wide_deeds(chance, HANDS, 6, strikes=0, ended=False) for _ in range(15)]
        for history, neighbours in [*small(57), *[(History(deeds), neighbours_of(deeds)) for deeds in wide]]:
            lists = keepers(neighbours)
            found = asked_in_lots(history)
            self.assertEqual(found, asked_slowly(neighbours, lists))
            held = [x for x in lists if all(kinwords.stands_ahead(x, one, other) for one, other in found)]
            self.assertEqual(many_set(history), len(held))
            self.assertEqual(held, [x for x in lists if all(
                kinwords.stands_ahead(x, thing, neighbours[thing][1]) for thing in neighbours)])
            many.add(len(found))
        self.assertTrue({0, 1, 2, 3} <= many)

    def test_they_are_of_one_lot_and_the_order_keeps_them(self):
        chance = random.Random(571)
        asked = 0
        for deeds in [wide_deeds(chance, HANDS, 16, ended=False) for _ in range(60)]:
            history = History(deeds)
            found = asked_in_lots(history)
            self.assertEqual(found, sorted(set(found)))
            for one, other in found:
                self.assertIn(other, lot_of(history, one))
                self.assertLess(order(history).index(one), order(history).index(other))
            self.assertGreaterEqual(many_set(history), 1)
            asked += len(found)
        self.assertGreater(asked, 60)

    def test_many_things(self):
        history = History(apart_deeds(HANDS, 4))
        begun = time.perf_counter()
        self.assertEqual([many_set(history), asked_in_lots(history)], [math.factorial(5) ** 4, []])
        deeds = apart_deeds(HANDS, 4)
        past = {"zoe": 4, **{hand: 4 for hand in HANDS}}
        deeds["zoe"].append(("put", "n", ("bob", 3), ("cy", 3), past))
        history = History(deeds)
        self.assertEqual([asked_in_lots(history), many_set(history)], [[(("bob", 3), ("cy", 3))], 120 ** 3 * 60])
        self.assertLess(time.perf_counter() - begun, 5)


class Wrong(unittest.TestCase):
    """[2]"""

    def test_wrong_arguments(self):
        talk = History(talk_deeds())
        histories = (InvalidHistory, NO_HISTORIES)
        for call in [lots, many_by_lots, all_by_lots, asked_in_lots, many_set]:
            assert_errors(self, call, {"history": talk}, {"history": histories})
        assert_errors(self, keeps_three, {"history": talk, "value": None}, {"history": histories})
        things = (InvalidMark, no_things(talk))
        assert_errors(self, lot_of, {"history": talk, "thing": B}, {"history": histories, "thing": things})
        good = {"history": talk, "dealing": [[C, B]]}
        assert_errors(self, list_by, good, {"history": histories, "dealing": (InvalidOrder, [None, [], [[B, B]]])})
        good = {"history": talk, "things": order(talk)}
        wrong = {"history": histories, "things": (InvalidOrder, no_listings(talk))}
        assert_errors(self, dealing_of, good, wrong)
        assert_errors(self, dealing_of, good, {"history": histories, "things": (Refused, [order(talk)[::-1]])})


if __name__ == "__main__":
    unittest.main()
