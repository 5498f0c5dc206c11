import time
import unittest

import kinwords
from samples import (
    HANDS, both_deeds, chain_deeds, five_deeds, four_deeds, largest_deeds, lead_deeds, small_deeds, talk_deeds,
)
from slow import keeps_rules, neighbours_of, only_order, told_order, views_of
from unmixed.errors import InvalidHistory, InvalidMark, InvalidOrder, InvalidView, Refused
from unmixed.histories import History, grown
from unmixed.orders import decided, is_order, order, order_in, place_of, reasons
from unmixed.views import part, sequence
from wrongs import NO_HISTORIES, NO_TALK_VIEWS, assert_errors, no_listings, no_things

A, B, C, D, E = [(hand, 0) for hand in HANDS]
X = ("put", "x", None, None, {})


def far_deeds():
    """Behind a stand three whose right neighbours are no brothers: b, c and the end."""
    return {
        "ann": [X, ("put", "n", A, B, {"ann": 1, "bob": 1})],
        "bob": [X],
        "cy": [X, ("put", "f", A, C, {"ann": 1, "cy": 1})],
        "dan": [("put", "e", A, None, {"ann": 1})],
    }


def turned_deeds():
    """Three hands and four things, of which (H) sets cy's ahead of bob's."""
    return {
        "ann": [X],
        "bob": [X, ("put", "x", A, B, {"ann": 1, "bob": 1})],
        "cy": [("put", "y", A, None, {"ann": 1})],
    }


class Order(unittest.TestCase):
    """[23]"""

    def test_the_documents_example(self):
        self.assertEqual(order(History(lead_deeds())), [("ann", 1), B, A])

    def test_runs_typed_forward_are_not_mixed(self):
        self.assertEqual(order(history=History(both_deeds())), [A, ("ann", 1), B, ("bob", 1)])

    def test_strikes_have_no_place(self):
        self.assertEqual(order(History(chain_deeds())), [("ann", 3), C, ("cy", 1), ("ann", 1), B, A])

    def test_the_farther_right_neighbour_comes_first(self):
        self.assertEqual(order(History(far_deeds())), [A, D, ("cy", 1), ("ann", 1), B, C])
        self.assertEqual(order(History(four_deeds())), [A, ("cy", 1), B, C])

    def test_the_empty_history(self):
        self.assertEqual(order(History({})), [])
        self.assertEqual(order_in(History({}), {}), [])

    def test_it_is_the_only_list_that_keeps_the_four_rules(self):
        for deeds in small_deeds(231, 60, 6):
            self.assertEqual(order(History(deeds)), only_order(neighbours_of(deeds)))

    def test_it_is_that_of_the_slow_words_of_larger_histories_too(self):
        for deeds in [largest_deeds(), *small_deeds(232, 40, 15)]:
            self.assertEqual(order(History(deeds)), told_order(neighbours_of(deeds)))

    def test_each_thing_stands_between_its_neighbours(self):
        for deeds in small_deeds(233, 40, 12):
            neighbours = neighbours_of(deeds)
            found = order(History(deeds))
            for thing, (left, right) in neighbours.items():
                self.assertTrue(left is None or kinwords.stands_ahead(found, left, thing))
                self.assertTrue(kinwords.stands_ahead(found, thing, right))

    def test_of_two_hands_the_lower_one_is_first(self):
        for deeds in small_deeds(234, 100, 8, hands=2):
            neighbours = neighbours_of(deeds)
            found = order(History(deeds))
            for one in neighbours:
                for other in kinwords.brothers(neighbours, neighbours[one][0]):
                    roots = kinwords.is_root(neighbours, one) and kinwords.is_root(neighbours, other)
                    self.assertFalse(roots and one[0] < other[0] and kinwords.stands_ahead(found, other, one))

    def test_of_three_hands_the_higher_one_may_be_first(self):
        self.assertEqual(order(History(turned_deeds())), [A, C, ("bob", 1), B])

    def test_a_history_grown_has_the_order_of_all_its_deeds(self):
        for deeds in small_deeds(235, 25, 7):
            history = History({})
            for mark in sequence(History(deeds)):
                elder, told = history, order(history)
                history = grown(elder, mark[0], deeds[mark[0]][mark[1]])
                self.assertEqual(order(elder), told)
                self.assertEqual([thing for thing in order(history) if thing in told], told)
            self.assertEqual(order(history), only_order(neighbours_of(deeds)) if len(history.things()) < 7
                             else told_order(neighbours_of(deeds)))


class Views(unittest.TestCase):
    """[23]: the order of the history of a view's deeds"""

    def test_views(self):
        talk = History(talk_deeds())
        self.assertEqual(order_in(talk, {"ann": 2}), [A, ("ann", 1)])
        self.assertEqual(order_in(history=talk, view={"cy": 1, "ann": 2}), [A, C, ("ann", 1)])
        self.assertEqual([order_in(talk, {}), order_in(talk, {"ann": 1})], [[], [A]])

    def test_it_is_that_of_the_part(self):
        for deeds in small_deeds(236, 30, 6):
            history = History(deeds)
            for view in views_of(deeds):
                self.assertEqual(order_in(history, view), order(part(history, view)))
                self.assertEqual(order_in(history, view), told_order(kinwords.within(neighbours_of(deeds), view)))


class Judged(unittest.TestCase):
    """[24]"""

    def test_just_the_order_is_it(self):
        for deeds in small_deeds(241, 25, 5):
            history = History(deeds)
            for things in kinwords.lists_of(neighbours_of(deeds)):
                self.assertIs(is_order(history, things), things == order(history))

    def test_any_object(self):
        both, lead = History(both_deeds()), History(lead_deeds())
        for history in [both, lead]:
            for value in no_listings(history):
                self.assertIs(is_order(history, value), False, repr(value))
            self.assertIs(is_order(history=history, value=order(history)), True)
        self.assertIs(is_order(History({}), []), True)
        for value in [None, (), {}, [[]], [A], False, 0, ""]:
            self.assertIs(is_order(History({}), value), False)


class Reasons(unittest.TestCase):
    """[25]"""

    def test_the_documents_example(self):
        found = reasons(History(lead_deeds()), [B, A, ("ann", 1)])
        self.assertEqual(found, [("ahead", ("ann", 1), A), ("mark", ("ann", 1), B)])

    def test_behind(self):
        talk = History(talk_deeds())
        self.assertEqual(reasons(talk, [B, A, C, ("ann", 1), ("ann", 2)]), [("ahead", B, A), ("behind", B, A)])
        self.assertEqual(reasons(talk, [A, B, C, ("ann", 2), ("ann", 1)]), [
            ("ahead", B, ("ann", 2)), ("ahead", C, ("ann", 2)), ("behind", ("ann", 2), ("ann", 1)),
        ])
        self.assertEqual(reasons(History(both_deeds()), [A, B, ("ann", 1), ("bob", 1)]), [
            ("behind", ("ann", 1), B), ("behind", ("bob", 1), ("ann", 1)),
        ])

    def test_ahead(self):
        chain = History(chain_deeds())
        self.assertEqual(reasons(chain, [("ann", 3), C, ("ann", 1), ("cy", 1), B, A]), [
            ("behind", ("cy", 1), ("ann", 1)),
        ])
        self.assertEqual(reasons(chain, [("ann", 3), C, ("cy", 1), B, ("ann", 1), A]), [
            ("ahead", ("ann", 3), B), ("ahead", C, B), ("mark", ("ann", 1), B),
        ])
        self.assertEqual(reasons(chain, [("ann", 3), C, ("cy", 1), ("ann", 1), A, B]), [("ahead", B, A)])

    def test_what_may_stand_between_what_was_put_ahead_and_its_brother(self):
        deeds = lead_deeds()
        deeds["cy"] = [("put", "z", B, A, {"ann": 1, "bob": 1})]
        deeds["dan"] = [X]
        history = History(deeds)
        self.assertEqual(order(history), [("ann", 1), B, C, A, D])
        self.assertEqual(reasons(history, [("ann", 1), B, C, D, A]), [
            ("ahead", ("ann", 1), D), ("ahead", B, D), ("mark", A, D),
        ])

    def test_farther(self):
        far = History(far_deeds())
        self.assertEqual(reasons(far, [A, ("cy", 1), ("ann", 1), D, B, C]), [
            ("farther", D, ("ann", 1)), ("farther", D, ("cy", 1)),
        ])
        self.assertEqual(reasons(far, [A, D, ("ann", 1), ("cy", 1), B, C]), [("farther", ("cy", 1), ("ann", 1))])

    def test_farther_goes_by_the_places_in_the_list_that_is_passed(self):
        far = History(far_deeds())
        self.assertEqual(reasons(far, [A, D, ("ann", 1), ("cy", 1), C, B]), [("mark", B, C)])
        self.assertEqual(reasons(far, [A, D, ("cy", 1), ("ann", 1), C, B]), [
            ("farther", ("ann", 1), ("cy", 1)), ("mark", B, C),
        ])

    def test_none_speak_against_the_order_alone(self):
        for deeds in small_deeds(251, 30, 6):
            neighbours, history = neighbours_of(deeds), History(deeds)
            for things in kinwords.lists_of(neighbours):
                found = reasons(history, things)
                self.assertIs(found == [], things == order(history))
                self.assertIs(found == [], keeps_rules(neighbours, things))

    def test_they_are_those_of_the_slow_words(self):
        words = set()
        for deeds in [turned_deeds(), *small_deeds(252, 30, 5)]:
            neighbours = neighbours_of(deeds)
            for things in kinwords.lists_of(neighbours):
                found = reasons(History(deeds), things)
                self.assertEqual(found, kinwords.reasons(neighbours, things))
                self.assertEqual(found, sorted(set(found)))
                words.update(word for word, _, _ in found)
        self.assertEqual(words, {"ahead", "behind", "farther", "mark"})

    def test_larger_ones(self):
        for deeds in small_deeds(253, 20, 14):
            neighbours, history = neighbours_of(deeds), History(deeds)
            for things in [history.things(), history.things()[::-1], sequence_of_things(history)]:
                self.assertEqual(reasons(history, things), kinwords.reasons(neighbours, things))

    def test_the_empty_history(self):
        self.assertEqual(reasons(history=History({}), value=[]), [])


def sequence_of_things(history):
    return [mark for mark in sequence(history) if mark in history.things()]


class Decided(unittest.TestCase):
    """[26]"""

    def test_the_documents_example(self):
        lead = History(lead_deeds())
        self.assertEqual(decided(lead, B, A), ("ahead", B, A))
        self.assertEqual(decided(lead, B, ("ann", 1)), ("mark", ("ann", 1), B))

    def test_behind(self):
        talk = History(talk_deeds())
        for one, other in [(A, C), (C, A)]:
            self.assertEqual(decided(talk, one, other), ("behind", A, C))
        self.assertEqual(decided(history=talk, one=("ann", 2), other=A), ("behind", A, ("ann", 2)))

    def test_in_stretches_of_brothers(self):
        talk = History(talk_deeds())
        self.assertEqual(decided(talk, ("ann", 2), C), ("ahead", C, ("ann", 1)))
        self.assertEqual(decided(History(both_deeds()), ("bob", 1), ("ann", 1)), ("mark", A, B))

    def test_what_is_on_both_ways_is_left_out(self):
        chain = History(chain_deeds())
        self.assertEqual(decided(chain, B, ("cy", 1)), ("mark", ("ann", 1), B))
        self.assertEqual(decided(chain, ("ann", 3), B), ("mark", ("ann", 1), B))
        self.assertEqual(decided(chain, ("cy", 1), ("ann", 3)), ("mark", ("ann", 3), C))
        self.assertEqual(decided(chain, ("cy", 1), A), ("ahead", C, A))

    def test_farther(self):
        far = History(far_deeds())
        self.assertEqual(decided(far, ("ann", 1), ("cy", 1)), ("farther", ("cy", 1), ("ann", 1)))
        self.assertEqual(decided(far, D, ("cy", 1)), ("farther", D, ("cy", 1)))

    def test_farther_of_those_that_lead(self):
        deeds = far_deeds()
        deeds["eve"] = [("put", "g", A, ("ann", 1), {"ann": 2, "bob": 1})]
        far = History(deeds)
        self.assertEqual(decided(far, E, D), ("farther", D, ("ann", 1)))

    def test_random_histories(self):
        words = set()
        for deeds in small_deeds(261, 60, 10):
            history, neighbours = History(deeds), neighbours_of(deeds)
            found = order(history)
            for one in found:
                for other in found:
                    if one != other:
                        told = decided(history, one, other)
                        self.assertEqual(told, kinwords.decided(neighbours, found, one, other))
                        self.assertTrue(kinwords.stands_ahead(found, told[1], told[2]))
                        firsts = [one, other] if kinwords.stands_ahead(found, one, other) else [other, one]
                        self.assertIn(firsts[0], kinwords.stretch(neighbours, told[1]) + leading(neighbours, told[1]))
                        words.add(told[0])
        self.assertEqual(words, {"ahead", "behind", "farther", "mark"})

    def test_refused(self):
        lead = History(lead_deeds())
        one, other = ("bob", 0), tuple(["bob", 0])
        for call in [lambda: decided(lead, one, other), lambda: decided(history=lead, one=one, other=other)]:
            with self.assertRaises(Refused) as held:
                call()
            self.assertIs(held.exception.value, one)


def leading(neighbours, thing):
    """All that hang on things that lead a thing."""
    return [x for y in neighbours if kinwords.leads(neighbours, y, thing) for x in kinwords.stretch(neighbours, y)]


class Places(unittest.TestCase):
    """[27]"""

    def test_places(self):
        for deeds in [talk_deeds(), chain_deeds(), five_deeds(), *small_deeds(271, 20, 9)]:
            history = History(deeds)
            self.assertEqual([place_of(history, thing) for thing in order(history)], list(range(len(history.things()))))
        self.assertEqual(place_of(history=History(talk_deeds()), thing=C), 2)


class Wrong(unittest.TestCase):
    """[2]"""

    def test_wrong_arguments(self):
        chain = History(chain_deeds())
        histories, things = (InvalidHistory, NO_HISTORIES), (InvalidMark, no_things(chain))
        assert_errors(self, order, {"history": chain}, {"history": histories})
        assert_errors(self, is_order, {"history": chain, "value": None}, {"history": histories})
        good = {"history": chain, "value": order(chain)}
        assert_errors(self, reasons, good, {"history": histories, "value": (InvalidOrder, no_listings(chain))})
        good = {"history": chain, "one": A, "other": B}
        assert_errors(self, decided, good, {"history": histories, "one": things, "other": things})
        good = {"history": chain, "thing": A}
        assert_errors(self, place_of, good, {"history": histories, "thing": things})

    def test_wrong_views(self):
        talk = History(talk_deeds())
        wrong = {"history": (InvalidHistory, NO_HISTORIES), "view": (InvalidView, NO_TALK_VIEWS)}
        assert_errors(self, order_in, {"history": talk, "view": {"ann": 2}}, wrong)

    def test_wrong_marks_come_ahead_of_what_is_refused(self):
        with self.assertRaises(InvalidMark) as held:
            decided(History(both_deeds()), ("bob", 2), ("bob", 2))
        self.assertEqual(held.exception.value, ("bob", 2))


class Limits(unittest.TestCase):
    """[3]"""

    def test_the_largest_history_is_asked_at_once(self):
        history = History(largest_deeds())
        begun = time.perf_counter()
        found = order(history)
        self.assertEqual(reasons(history, found), [])
        self.assertGreater(len(reasons(history, history.things())), 50)
        for one in found:
            for other in found:
                if one != other:
                    self.assertIn(decided(history, one, other)[0], ["ahead", "behind", "farther", "mark"])
        self.assertLess(time.perf_counter() - begun, 5)


if __name__ == "__main__":
    unittest.main()
