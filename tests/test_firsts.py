import itertools
import time
import unittest

import kinwords
from samples import HANDS, both_deeds, chain_deeds, five_deeds, lead_deeds, small_deeds, talk_deeds
from slow import neighbours_of
from unmixed.errors import InvalidHistory, InvalidMark, InvalidOrder, Refused, RowError
from unmixed.firsts import all_first, brother_orders, choice_of, first_by, is_first, many_first
from unmixed.histories import History
from unmixed.orders import order
from wrongs import HUGE, NO_HISTORIES, assert_error, assert_errors, no_lefts, no_listings

A, B, C, D, E = [(hand, 0) for hand in HANDS]
X = ("put", "x", None, None, {})


def small():
    return [(History(deeds), neighbours_of(deeds)) for deeds in small_deeds(29, 40, 6)]


class First(unittest.TestCase):
    """[29]"""

    def test_ordinary_lists(self):
        talk = History(talk_deeds())
        self.assertIs(is_first(talk, [A, C, B, ("ann", 1), ("ann", 2)]), True)
        self.assertIs(is_first(history=talk, value=[A, B, ("ann", 1), C, ("ann", 2)]), False)
        self.assertIs(is_first(talk, [A, B, ("ann", 1), ("ann", 2), C]), False)
        self.assertIs(is_first(talk, [B, C, A, ("ann", 1), ("ann", 2)]), False)

    def test_stretches_stay_whole(self):
        both = History(both_deeds())
        self.assertIs(is_first(both, [B, ("bob", 1), A, ("ann", 1)]), True)
        self.assertIs(is_first(both, [A, B, ("ann", 1), ("bob", 1)]), False)

    def test_a_thing_may_be_far_from_its_right_neighbour_but_ahead_of_it(self):
        five = History(five_deeds())
        self.assertIs(is_first(five, [A, D, B, E, C]), True)
        self.assertIs(is_first(five, [A, D, C, B, E]), False)

    def test_just_these(self):
        for history, neighbours in small():
            for things in kinwords.lists_of(neighbours):
                self.assertIs(is_first(history, things), kinwords.is_first_list(neighbours, things))

    def test_the_order_is_one(self):
        for deeds in small_deeds(291, 30, 14):
            self.assertIs(is_first(History(deeds), order(History(deeds))), True)

    def test_any_object(self):
        lead = History(lead_deeds())
        for value in no_listings(lead):
            self.assertIs(is_first(lead, value), False, repr(value))
        self.assertIs(is_first(History({}), []), True)
        for value in [None, (), {}, [[]], [A], False]:
            self.assertIs(is_first(History({}), value), False)


class Orders(unittest.TestCase):
    """[30]"""

    def test_ordinary_ones(self):
        self.assertEqual(brother_orders(History(lead_deeds()), None), [[("ann", 1), B, A], [B, ("ann", 1), A]])
        self.assertEqual(brother_orders(History(five_deeds()), None), [[A, B, C], [B, A, C]])
        talk = History(talk_deeds())
        self.assertEqual(brother_orders(history=talk, left=A), [[B, C, ("ann", 1)], [C, B, ("ann", 1)]])
        self.assertEqual(brother_orders(History(five_deeds()), B), [[E]])

    def test_none(self):
        self.assertEqual(brother_orders(History(five_deeds()), E), [[]])
        self.assertEqual(brother_orders(History({}), None), [[]])

    def test_just_these(self):
        for history, neighbours in small():
            for left in [None, *neighbours]:
                told = kinwords.told(neighbours, left)
                lists = itertools.permutations(kinwords.brothers(neighbours, left))
                wanted = [list(x) for x in lists if all(x.index(one) < x.index(other) for one, other in told)]
                self.assertEqual(brother_orders(history, left), wanted)


class Choices(unittest.TestCase):
    """[31]"""

    def test_the_documents_example(self):
        lead = History(lead_deeds())
        self.assertEqual(first_by(lead, {None: [B, ("ann", 1), A]}), [B, ("ann", 1), A])
        self.assertEqual(list(choice_of(lead, [("ann", 1), B, A]).items()), [(None, [("ann", 1), B, A])])

    def test_brothers_with_all_that_hang_on_them(self):
        five = History(five_deeds())
        choice = {B: [E], None: [B, A, C], A: [D]}
        self.assertEqual(first_by(five, choice), [B, E, A, D, C])
        found = choice_of(history=five, things=[B, E, A, D, C])
        self.assertEqual(list(found.items()), [(None, [B, A, C]), (A, [D]), (B, [E])])
        self.assertEqual(first_by(history=five, choice=found), [B, E, A, D, C])

    def test_the_empty_history(self):
        empty = History({})
        self.assertEqual([first_by(empty, {}), choice_of(empty, [])], [[], {}])
        for choice in [{None: []}, {A: []}, [], None]:
            assert_error(self, InvalidOrder, choice, lambda: first_by(empty, choice))

    def test_each_first_list_comes_of_its_choice(self):
        for history, neighbours in small():
            for things in all_first(history):
                choice = choice_of(history, things)
                lefts = [left for left in [None, *sorted(neighbours)] if kinwords.brothers(neighbours, left)]
                self.assertEqual(list(choice), lefts)
                for left in lefts:
                    self.assertIn(choice[left], brother_orders(history, left))
                self.assertEqual(first_by(history, choice), things)

    def test_each_choice_tells_a_first_list_of_its_own(self):
        for history, neighbours in small():
            lefts = [left for left in [None, *neighbours] if kinwords.brothers(neighbours, left)]
            lists = [brother_orders(history, left) for left in lefts]
            choices = [dict(zip(lefts, chosen)) for chosen in itertools.product(*lists)]
            self.assertEqual(sorted(first_by(history, choice) for choice in choices), all_first(history))
            self.assertTrue(all(choice_of(history, first_by(history, choice)) == choice for choice in choices))

    def test_what_is_no_choice(self):
        five = History(five_deeds())
        good = {None: [A, B, C], A: [D], B: [E]}
        self.assertEqual(first_by(five, good), [A, D, B, E, C])
        wrong = [None, True, 0, [], (), {}, "", five, RowError(good), list(good.items()), [A, D, B, E, C]]
        wrong += [{left: good[left] for left in good if left != lost} for lost in good]
        wrong += [{**good, left: []} for left in [C, D, ("zoe", 0), ("ann", HUGE), True, 0, "ann", (), (None,)]]
        wrong += [{**good, left: [C]} for left in [C, ("zoe", 0)]]
        for key in [("ann", False), ("ann", 0, 0), ("ann",), "ann", 0, False, (), ("bob", 1)]:
            wrong.append({None: [A, B, C], key: [D], B: [E]})
        wrong.append({False: [A, B, C], A: [D], B: [E]})
        for listed in [[A, C, B], [C, A, B], [A, B], [A, B, C, C], [A, B, B], [A, B, D], [A, B, C, D], [], None,
                       (A, B, C), {A: 1, B: 1, C: 1}, [A, B, ("cy", False)], [A, B, ["cy", 0]], [A, B, None],
                       [[A, B, C]], "abc"]:
            wrong.append({**good, None: listed})
        for listed in [[], [E], [D, D], [D, E], (D,), None, [None], [("dan", False)], D]:
            wrong.append({**good, A: listed})
        assert_errors(self, first_by, {"history": five, "choice": good}, {
            "history": (InvalidHistory, NO_HISTORIES), "choice": (InvalidOrder, wrong),
        })

    def test_what_is_no_list_of_all_things(self):
        chain = History(chain_deeds())
        good = {"history": chain, "things": order(chain)}
        wrong = {"history": (InvalidHistory, NO_HISTORIES), "things": (InvalidOrder, no_listings(chain))}
        assert_errors(self, choice_of, good, wrong)

    def test_refused(self):
        for history, neighbours in small():
            for things in kinwords.lists_of(neighbours)[::7]:
                if not kinwords.is_first_list(neighbours, things):
                    assert_error(self, Refused, things, lambda: choice_of(history, things))
                    assert_error(self, Refused, things, lambda: choice_of(history=history, things=things))


class All(unittest.TestCase):
    """[32]"""

    def test_the_documents_example(self):
        lead = History(lead_deeds())
        self.assertEqual([many_first(lead), all_first(lead)], [2, [[("ann", 1), B, A], [B, ("ann", 1), A]]])

    def test_the_empty_history(self):
        self.assertEqual([many_first(history=History({})), all_first(history=History({}))], [1, [[]]])

    def test_just_these(self):
        many = 0
        for history, neighbours in small():
            wanted = [x for x in kinwords.lists_of(neighbours) if kinwords.is_first_list(neighbours, x)]
            self.assertEqual(all_first(history), wanted)
            self.assertEqual(many_first(history), len(wanted))
            many += len(wanted)
        self.assertGreater(many, 100)

    def test_the_number_is_a_product(self):
        for history, neighbours in small():
            product = 1
            for left in [None, *neighbours]:
                product *= len(brother_orders(history, left))
            self.assertEqual(many_first(history), product)

    def test_seven_things(self):
        hands = [*HANDS, "fay", "gus"]
        apart = History({hand: [X] for hand in hands})
        begun = time.perf_counter()
        self.assertEqual(many_first(apart), 5040)
        self.assertEqual(all_first(apart), [list(x) for x in itertools.permutations([(hand, 0) for hand in hands])])
        for deeds in small_deeds(321, 20, 7):
            history = History(deeds)
            self.assertEqual(len(all_first(history)), many_first(history))
        self.assertLess(time.perf_counter() - begun, 5)


class Wrong(unittest.TestCase):
    """[2]"""

    def test_wrong_arguments(self):
        chain = History(chain_deeds())
        histories = (InvalidHistory, NO_HISTORIES)
        assert_errors(self, is_first, {"history": chain, "value": None}, {"history": histories})
        good = {"history": chain, "left": None}
        assert_errors(self, brother_orders, good, {"history": histories, "left": (InvalidMark, no_lefts(chain))})
        for call in [many_first, all_first]:
            assert_errors(self, call, {"history": chain}, {"history": histories})


if __name__ == "__main__":
    unittest.main()
