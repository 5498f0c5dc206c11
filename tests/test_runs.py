import time
import unittest

import kinwords
from samples import HANDS, back_deeds, both_deeds, chain_deeds, largest_deeds, many_typed, small_deeds, talk_deeds
from slow import neighbours_of
from unmixed.errors import InvalidHistory, InvalidRun, Refused, RowError
from unmixed.histories import History
from unmixed.orders import order
from unmixed.runs import are_apart, backward_runs, forward_runs, mixed_in, pieces_by_hands
from wrongs import NO_HISTORIES, assert_error, assert_errors, no_things

A, B, C, D, E = [(hand, 0) for hand in HANDS]


def many():
    return [(History(deeds), neighbours_of(deeds)) for deeds in [*many_typed(37, 60, 14), *small_deeds(37, 30, 9)]]


def slow_runs(deeds, goes_on):
    """[37], [38]: all lists of puts one behind the other with each going on from the last, that no longer one has."""
    found = []
    for hand in sorted(deeds):
        puts = [(hand, at) for at, deed in enumerate(deeds[hand]) if deed[0] == "put"]
        for start in range(len(puts)):
            for end in range(start + 2, len(puts) + 1):
                if all(goes_on(one, other) for one, other in zip(puts[start:end], puts[start + 1:end])):
                    found.append(puts[start:end])
    return sorted(run for run in found if not any(len(run) < len(x) and set(run) <= set(x) for x in found))


class Forward(unittest.TestCase):
    """[37]"""

    def test_the_documents_example(self):
        self.assertEqual(forward_runs(History(talk_deeds())), [[A, ("ann", 1), ("ann", 2)]])
        self.assertEqual(forward_runs(history=History(both_deeds())), [[A, ("ann", 1)], [B, ("bob", 1)]])

    def test_none(self):
        for deeds in [{}, back_deeds(), {"ann": [("put", "x", None, None, {})]}]:
            self.assertEqual(forward_runs(History(deeds)), [])

    def test_strikes_are_left_out(self):
        deeds = {"ann": [
            ("put", "a", None, None, {}), ("strike", A, {"ann": 1}), ("put", "b", A, None, {"ann": 2}),
            ("strike", ("ann", 2), {"ann": 3}), ("put", "c", ("ann", 2), None, {"ann": 4}),
            ("put", "d", None, A, {"ann": 5}), ("put", "e", ("ann", 5), A, {"ann": 6}),
        ]}
        self.assertEqual(forward_runs(History(deeds)), [[A, ("ann", 2), ("ann", 4)], [("ann", 5), ("ann", 6)]])

    def test_puts_of_others_are_none(self):
        deeds = {"ann": [("put", "a", None, None, {})], "bob": [("put", "b", A, None, {"ann": 1})]}
        self.assertEqual(forward_runs(History(deeds)), [])

    def test_a_put_elsewhere_ends_a_run(self):
        deeds = {"ann": [
            ("put", "a", None, None, {}), ("put", "b", None, A, {"ann": 1}), ("put", "c", A, None, {"ann": 2}),
        ]}
        self.assertEqual(forward_runs(History(deeds)), [])

    def test_random_histories(self):
        for history, neighbours in many():
            deeds = {hand: history.deeds(hand) for hand in history.hands()}
            wanted = slow_runs(deeds, lambda one, other: neighbours[other][0] == one)
            self.assertEqual(forward_runs(history), wanted)

    def test_two_of_which_none_hangs_on_the_other_are_apart(self):
        pairs = 0
        for history, neighbours in many():
            runs = forward_runs(history)
            for one in runs:
                for other in runs:
                    hanging = any(kinwords.hangs(neighbours, x, y) or kinwords.hangs(neighbours, y, x)
                                  for x in one for y in other)
                    if one != other and not hanging:
                        self.assertIs(are_apart(history, one, other), True)
                        pairs += 1
        self.assertGreater(pairs, 20)


class Backward(unittest.TestCase):
    """[38]"""

    def test_the_documents_example(self):
        back = History(back_deeds())
        self.assertEqual(backward_runs(back), [[A, ("ann", 1), ("ann", 2)], [B, ("bob", 1)]])
        self.assertEqual(backward_runs(History(talk_deeds())), [])
        self.assertEqual(backward_runs(history=History({})), [])

    def test_both_need_the_same_left_neighbour(self):
        deeds = {"ann": [
            ("put", "a", None, None, {}), ("put", "b", A, None, {"ann": 1}), ("strike", A, {"ann": 2}),
            ("put", "c", A, ("ann", 1), {"ann": 3}), ("put", "d", None, A, {"ann": 4}),
        ]}
        self.assertEqual(backward_runs(History(deeds)), [[("ann", 1), ("ann", 3)]])

    def test_a_right_neighbour_alone_is_not_enough(self):
        deeds = {
            "ann": [("put", "r", None, None, {}), ("put", "x", B, A, {"ann": 1, "bob": 1})],
            "bob": [("put", "l", None, A, {"ann": 1})],
        }
        self.assertEqual(backward_runs(History(deeds)), [])

    def test_random_histories(self):
        for history, neighbours in many():
            deeds = {hand: history.deeds(hand) for hand in history.hands()}
            wanted = slow_runs(deeds, lambda one, other: kinwords.was_ahead(neighbours, other, one))
            self.assertEqual(backward_runs(history), wanted)

    def test_two_that_lead_none_of_the_other_are_apart(self):
        pairs = 0
        for history, neighbours in many():
            runs = backward_runs(history)
            for one in runs:
                for other in runs:
                    if one != other and not (bears(neighbours, one, other) or bears(neighbours, other, one)):
                        self.assertIs(are_apart(history, one, other), True)
                        pairs += 1
        self.assertGreater(pairs, 20)


def bears(neighbours, one, other):
    """Return whether a thing of the one hangs on one of the other, leads one, or hangs on a thing that does."""
    for x in one:
        for y in other:
            if kinwords.hangs(neighbours, x, y):
                return True
            leaders = [z for z in neighbours if kinwords.leads(neighbours, z, y)]
            if any(x == z or kinwords.hangs(neighbours, x, z) for z in leaders):
                return True
    return False


class Mixed(unittest.TestCase):
    """[39]"""

    def test_the_documents_example(self):
        talk = History(talk_deeds())
        self.assertEqual(mixed_in(talk, [("ann", 1), A]), [B, C])
        self.assertIs(are_apart(talk, [C, B], [A]), True)
        back = History(back_deeds())
        self.assertIs(are_apart(back, *backward_runs(back)), True)

    def test_of_one_thing_nothing_is_mixed(self):
        self.assertEqual(mixed_in(history=History(talk_deeds()), run=[C]), [])

    def test_what_is_in_the_list_is_left_out(self):
        talk = History(talk_deeds())
        self.assertEqual(mixed_in(talk, [("ann", 2), B, A]), [C, ("ann", 1)])
        self.assertEqual(mixed_in(talk, order(talk)[::-1]), [])

    def test_apart_or_not(self):
        talk = History(talk_deeds())
        for one, other, apart in [
            ([A], [B], True), ([("ann", 1), C], [A, B], True), ([A, C], [B], False), ([B], [C, A], False),
            ([A, ("ann", 1)], [B, ("ann", 2)], False), ([("ann", 2)], [C, A, B, ("ann", 1)], True),
        ]:
            self.assertIs(are_apart(talk, one, other), apart)
            self.assertIs(are_apart(history=talk, one=other, other=one), apart)

    def test_random_lists(self):
        for history, _ in many():
            found = order(history)
            for start in range(len(found)):
                run, other = found[start::2][::-1], found[start + 1::2]
                self.assertEqual(mixed_in(history, run), other[:len(run) - 1])
                if other:
                    self.assertIs(are_apart(history, run, other), len(run) == 1 and len(other) == 1)
                if start:
                    self.assertIs(are_apart(history, found[:start][::-1], run), True)

    def test_refused(self):
        talk = History(talk_deeds())
        one, other = [A, B], [C, A]
        assert_error(self, Refused, other, lambda: are_apart(talk, one, other))
        assert_error(self, Refused, one, lambda: are_apart(talk, one, one))
        wrong = [C, C, A]
        assert_error(self, InvalidRun, wrong, lambda: are_apart(talk, one, wrong))


class Pieces(unittest.TestCase):
    """[40]"""

    def test_the_documents_example(self):
        self.assertEqual(pieces_by_hands(History(talk_deeds())), [
            ("ann", [A]), ("bob", [B]), ("cy", [C]), ("ann", [("ann", 1), ("ann", 2)]),
        ])

    def test_none(self):
        self.assertEqual(pieces_by_hands(history=History({})), [])

    def test_random_histories(self):
        for history, _ in many():
            found = pieces_by_hands(history)
            self.assertEqual([thing for _, things in found for thing in things], order(history))
            self.assertTrue(all(things and {hand} == {thing[0] for thing in things} for hand, things in found))
            self.assertTrue(all(one[0] != other[0] for one, other in zip(found, found[1:])))


class Wrong(unittest.TestCase):
    """[2]"""

    def test_wrong_arguments(self):
        chain = History(chain_deeds())
        runs = [None, True, 0, "ann", (), [], (A,), {A: 1}, {}, A, chain, RowError([A]), [A, A], [A, B, A], [[A]]]
        runs += [[A, value] for value in no_things(chain)] + [[value] for value in no_things(chain)]
        histories, runs = (InvalidHistory, NO_HISTORIES), (InvalidRun, runs)
        assert_errors(self, mixed_in, {"history": chain, "run": [A]}, {"history": histories, "run": runs})
        good = {"history": chain, "one": [A], "other": [B, C]}
        assert_errors(self, are_apart, good, {"history": histories, "one": runs, "other": runs})
        for call in [forward_runs, backward_runs, pieces_by_hands]:
            assert_errors(self, call, {"history": chain}, {"history": histories})


class Limits(unittest.TestCase):
    """[3]"""

    def test_the_largest_history_is_asked_at_once(self):
        history = History(largest_deeds())
        begun = time.perf_counter()
        things = order(history)
        self.assertEqual(mixed_in(history, [things[0], things[-1]]), things[1:-1])
        self.assertIs(are_apart(history, things[:12], things[12:]), True)
        self.assertEqual(sum(len(piece) for _, piece in pieces_by_hands(history)), 24)
        self.assertTrue(all(len(run) > 1 for run in forward_runs(history) + backward_runs(history)))
        self.assertLess(time.perf_counter() - begun, 5)


if __name__ == "__main__":
    unittest.main()
