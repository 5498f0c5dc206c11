import unittest

import kinwords
from samples import chain_deeds, five_deeds, lead_deeds, small_deeds, talk_deeds
from slow import neighbours_of
from unmixed.brothers import (
    brothers_behind, hangs_on, is_ahead, led_by, left_of, right_of, roots, stretch, told_ahead,
)
from unmixed.errors import InvalidHistory, InvalidMark
from unmixed.histories import History
from unmixed.views import sequence
from wrongs import NO_HISTORIES, assert_errors, no_lefts, no_things

A, B, C, D, E = [(hand, 0) for hand in ["ann", "bob", "cy", "dan", "eve"]]


def many():
    """Histories with the neighbours of their things."""
    return [(History(deeds), neighbours_of(deeds)) for deeds in small_deeds(19, 80, 9)]


class Neighbours(unittest.TestCase):
    """[19]"""

    def test_the_documents_example(self):
        five = History(five_deeds())
        self.assertIs(hangs_on(five, E, B), True)

    def test_left_and_right(self):
        talk = History(talk_deeds())
        self.assertEqual([left_of(talk, mark) for mark in talk.things()], [None, A, ("ann", 1), A, A])
        self.assertEqual([right_of(talk, mark) for mark in talk.things()], [None, None, None, ("ann", 1), ("ann", 1)])
        self.assertEqual([left_of(history=talk, thing=B), right_of(history=talk, thing=B)], [A, ("ann", 1)])

    def test_what_hangs_on_what(self):
        talk = History(talk_deeds())
        found = [(one, other) for one in talk.things() for other in talk.things() if hangs_on(talk, one, other)]
        self.assertEqual(found, [
            (("ann", 1), A), (("ann", 2), A), (("ann", 2), ("ann", 1)), (B, A), (C, A),
        ])
        self.assertIs(hangs_on(history=talk, one=A, other=A), False)
        self.assertIs(hangs_on(talk, A, B), False)

    def test_random_histories(self):
        for history, neighbours in many():
            for one in history.things():
                self.assertEqual((left_of(history, one), right_of(history, one)), neighbours[one])
                for other in history.things():
                    self.assertIs(hangs_on(history, one, other), kinwords.hangs(neighbours, one, other))


class Brothers(unittest.TestCase):
    """[20]"""

    def test_the_documents_example(self):
        five = History(five_deeds())
        self.assertEqual([brothers_behind(five, None), stretch(five, B)], [[A, B, C], [B, E]])

    def test_brothers(self):
        talk = History(talk_deeds())
        self.assertEqual(brothers_behind(talk, None), [A])
        self.assertEqual(brothers_behind(history=talk, left=A), [("ann", 1), B, C])
        self.assertEqual(brothers_behind(talk, ("ann", 2)), [])
        self.assertEqual(brothers_behind(History({}), None), [])

    def test_stretches(self):
        talk = History(talk_deeds())
        self.assertEqual(stretch(talk, A), talk.things())
        self.assertEqual(stretch(history=talk, thing=("ann", 1)), [("ann", 1), ("ann", 2)])
        self.assertEqual(stretch(talk, C), [C])

    def test_random_histories(self):
        for history, neighbours in many():
            self.assertEqual(brothers_behind(history, None), kinwords.brothers(neighbours, None))
            for thing in history.things():
                self.assertEqual(brothers_behind(history, thing), kinwords.brothers(neighbours, thing))
                self.assertEqual(stretch(history, thing), kinwords.stretch(neighbours, thing))


class Leaders(unittest.TestCase):
    """[21]"""

    def test_the_documents_example(self):
        lead = History(lead_deeds())
        self.assertIs(is_ahead(lead, B, A), True)
        self.assertEqual([led_by(lead, A), roots(lead, None)], [[("ann", 1), B], [A]])

    def test_led_over_others(self):
        chain = History(chain_deeds())
        self.assertEqual(led_by(chain, A), [("ann", 1), ("ann", 3), B, C])
        self.assertEqual(led_by(history=chain, thing=("ann", 1)), [("ann", 3), C])
        self.assertEqual(led_by(chain, C), [])
        self.assertEqual(roots(chain, None), [A])
        self.assertEqual(roots(history=chain, left=C), [("cy", 1)])
        self.assertEqual([roots(chain, B), roots(History({}), None)], [[], []])

    def test_put_ahead_is_said_of_the_right_neighbour_alone(self):
        chain = History(chain_deeds())
        found = [(one, other) for one in chain.things() for other in chain.things() if is_ahead(chain, one, other)]
        self.assertEqual(found, [(("ann", 1), A), (("ann", 3), ("ann", 1)), (B, A), (C, ("ann", 1))])
        self.assertIs(is_ahead(history=chain, one=A, other=B), False)

    def test_a_right_neighbour_that_is_no_brother(self):
        five = History(five_deeds())
        self.assertIs(is_ahead(five, D, C), False)
        self.assertEqual(led_by(five, C), [])
        self.assertEqual([roots(five, None), roots(five, A)], [[A, B, C], [D]])

    def test_random_histories(self):
        for history, neighbours in many():
            things = history.things()
            for left in [None, *things]:
                wanted = [x for x in kinwords.brothers(neighbours, left) if kinwords.is_root(neighbours, x)]
                self.assertEqual(roots(history, left), wanted)
            for one in things:
                self.assertEqual(led_by(history, one), [x for x in things if kinwords.leads(neighbours, x, one)])
                for other in things:
                    self.assertIs(is_ahead(history, one, other), kinwords.was_ahead(neighbours, one, other))


class Told(unittest.TestCase):
    """[22]"""

    def test_the_documents_example(self):
        self.assertEqual(told_ahead(History(five_deeds()), None), [(A, C), (B, C)])

    def test_others(self):
        self.assertEqual(told_ahead(History(talk_deeds()), A), [(B, ("ann", 1)), (C, ("ann", 1))])
        self.assertEqual(told_ahead(History(talk_deeds()), None), [])
        self.assertEqual(told_ahead(history=History(lead_deeds()), left=None), [(("ann", 1), A), (B, A)])
        self.assertEqual(told_ahead(History(lead_deeds()), B), [])
        self.assertEqual(told_ahead(History({}), None), [])

    def test_both_neighbours_in_stretches_of_brothers(self):
        deeds = five_deeds()
        deeds["cy"].append(("put", "t", None, ("cy", 0), {"cy": 1}))
        deeds["zoe"] = [("put", "z", E, ("cy", 1), {"bob": 1, "cy": 2, "eve": 1})]
        five = History(deeds)
        self.assertEqual(told_ahead(five, None), [(A, C), (B, C), (B, ("cy", 1)), (("cy", 1), C)])

    def test_random_histories(self):
        found = 0
        for history, neighbours in many():
            for left in [None, *history.things()]:
                self.assertEqual(told_ahead(history, left), kinwords.told(neighbours, left))
                found += len(told_ahead(history, left))
        self.assertGreater(found, 100)


class Wrong(unittest.TestCase):
    """[2]"""

    def test_wrong_arguments(self):
        chain = History(chain_deeds())
        things = (InvalidMark, no_things(chain))
        histories = (InvalidHistory, NO_HISTORIES)
        for call in [left_of, right_of, stretch, led_by]:
            assert_errors(self, call, {"history": chain, "thing": A}, {"history": histories, "thing": things})
        for call in [hangs_on, is_ahead]:
            good = {"history": chain, "one": A, "other": ("ann", 1)}
            assert_errors(self, call, good, {"history": histories, "one": things, "other": things})
        for call in [brothers_behind, roots, told_ahead]:
            wrong = {"history": histories, "left": (InvalidMark, no_lefts(chain))}
            assert_errors(self, call, {"history": chain, "left": None}, wrong)

    def test_marks_of_strikes_are_no_things(self):
        chain = History(chain_deeds())
        self.assertIn(("ann", 2), sequence(chain))
        for call in [left_of, right_of, stretch, led_by, brothers_behind, roots, told_ahead]:
            with self.assertRaises(InvalidMark):
                call(chain, ("ann", 2))


if __name__ == "__main__":
    unittest.main()
