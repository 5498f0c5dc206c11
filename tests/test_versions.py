import itertools
import random
import time
import unittest

from samples import HANDS, NO_WORDS, largest_deeds, many_typed, small_deeds, talk_deeds
from slow import neighbours_of, told_order, views_of
from unmixed.errors import InvalidHand, InvalidHistory, InvalidMark, InvalidRows, InvalidSteps, InvalidView, RowError
from unmixed.histories import History
from unmixed.shown import row, shown
from unmixed.versions import by_whom, changes, kept, known_since, lacks, rewritten, words_of
from unmixed.views import whole
from wrongs import HUGE, NO_HISTORIES, NO_TALK_VIEWS, assert_error, assert_errors, no_things

A, B, C, D, E = [(hand, 0) for hand in HANDS]


def samples(seed):
    """Small histories with all their views."""
    found = [talk_deeds(), *many_typed(seed, 10, 7, hands=4), *small_deeds(seed, 15, 5)]
    return [(History(deeds), deeds, views_of(deeds)) for deeds in found]


def pairs(seed):
    chance = random.Random(seed)
    for history, deeds, views in samples(seed):
        found = list(itertools.product(views, repeat=2))
        for one, other in chance.sample(found, min(len(found), 60)):
            yield history, deeds, one, other


def told_changes(history, deeds, one, other):
    """[50], piece by piece: all between two kept things, or the ends."""
    order = told_order(neighbours_of(deeds))
    ones, others = shown(history, one), shown(history, other)
    bounds = [-1, *[at for at, thing in enumerate(order) if thing in ones and thing in others], len(order)]
    found = []
    for start, end in zip(bounds, bounds[1:]):
        out = [thing for thing in order[start + 1:end] if thing in ones]
        into = [thing for thing in order[start + 1:end] if thing in others]
        if out or into:
            place = len([thing for thing in ones if order.index(thing) <= start])
            found.append((place, *[[deeds[hand][at][1] for hand, at in things] for things in [out, into]]))
    return found


class Kept(unittest.TestCase):
    """[49]"""

    def test_the_documents_example(self):
        talk = History(talk_deeds())
        self.assertEqual(kept(talk, {"ann": 3}, whole(talk)), [A, ("ann", 2)])

    def test_all_views(self):
        for history, deeds, one, other in pairs(49):
            order = told_order(neighbours_of(deeds))
            both = [thing for thing in order if thing in shown(history, one) and thing in shown(history, other)]
            self.assertEqual(kept(history=history, one=one, other=other), both)
            self.assertEqual(kept(history, one, one), shown(history, one))
            self.assertEqual(kept(history, {}, one), [])


class Changes(unittest.TestCase):
    """[50]"""

    def test_the_documents_examples(self):
        talk = History(talk_deeds())
        self.assertEqual(changes(talk, {"ann": 3}, whole(talk)), [(1, ["go"], ["not", "may"])])
        self.assertEqual(changes(talk, whole(talk), {"ann": 1}), [(1, ["not", "may", "up"], [])])

    def test_the_rows_begin_and_its_end(self):
        talk = History(talk_deeds())
        self.assertEqual(changes(talk, {}, {"ann": 2}), [(0, [], ["we", "go"])])
        self.assertEqual(changes(talk, {"ann": 2}, {}), [(0, ["we", "go"], [])])
        self.assertEqual(changes(talk, {"ann": 1}, {"ann": 2}), [(1, [], ["go"])])
        self.assertEqual([changes(talk, {"ann": 2}, {"ann": 2}), changes(History({}), {}, {})], [[], []])

    def test_words_struck_and_put_anew_may_be_alike(self):
        deeds = {
            "ann": [
                ("put", "a", None, None, {}), ("put", "b", A, None, {"ann": 1}),
                ("put", "c", ("ann", 1), None, {"ann": 2}), ("strike", ("ann", 1), {"ann": 3}),
                ("put", "b", A, ("ann", 1), {"ann": 4}),
            ],
        }
        self.assertEqual(changes(History(deeds), {"ann": 3}, {"ann": 5}), [(1, ["b"], ["b"])])

    def test_several_pieces(self):
        deeds = {
            "ann": [
                ("put", "b", None, None, {}), ("put", "d", A, None, {"ann": 1}),
                ("put", "f", ("ann", 1), None, {"ann": 2}),
            ],
            "bob": [
                ("put", "a", None, A, {"ann": 3}), ("put", "c", A, ("ann", 1), {"ann": 3, "bob": 1}),
                ("strike", ("ann", 2), {"ann": 3, "bob": 2}),
            ],
        }
        history = History(deeds)
        self.assertEqual(changes(history, {"ann": 3}, whole(history)), [(0, [], ["a"]), (1, [], ["c"]), (2, ["f"], [])])
        self.assertEqual(changes(history, whole(history), {"ann": 3}), [(0, ["a"], []), (2, ["c"], []), (4, [], ["f"])])

    def test_all_views(self):
        many = set()
        for history, deeds, one, other in pairs(50):
            found = changes(history=history, one=one, other=other)
            self.assertEqual(found, told_changes(history, deeds, one, other))
            self.assertEqual(rewritten(row(history, one), found), row(history, other))
            many.add(len(found))
        self.assertTrue({0, 1, 2, 3} <= many)


class Rewritten(unittest.TestCase):
    """[51]"""

    def test_the_documents_example(self):
        talk = History(talk_deeds())
        found = rewritten(row(talk, {"ann": 3}), changes(talk, {"ann": 3}, whole(talk)))
        self.assertEqual(found, ["we", "not", "may", "up"])

    def test_ordinary_changes(self):
        words = ["a", "b", "c", "d"]
        self.assertEqual(rewritten(words=words, steps=[]), words)
        steps = [(0, [], ["x"]), (1, ["b"], []), (4, [], ["y", "z"])]
        self.assertEqual(rewritten(words, steps), ["x", "a", "c", "d", "y", "z"])
        self.assertEqual(rewritten(words, [(0, ["a", "b"], ["b"]), (3, ["d"], ["d"])]), ["b", "c", "d"])
        self.assertEqual(rewritten(words, [(0, words, [])]), [])
        self.assertEqual(rewritten([], [(0, [], ["a"])]), ["a"])
        self.assertEqual([rewritten([], []), words], [[], ["a", "b", "c", "d"]])

    def test_what_is_no_row(self):
        wrong = [
            None, True, 0, "", "ann", (), ("a",), {}, {"a": 1}, [None], ["A"], ["a", ""], ["a", 1], [["a"]], [True],
            ["abcdefghi"], RowError(["a"]), History({}),
        ]
        for value in wrong:
            for steps in [[], None]:
                assert_error(self, InvalidRows, value, lambda: rewritten(value, steps))
                assert_error(self, InvalidRows, value, lambda: rewritten(words=value, steps=steps))

    def test_what_are_no_changes(self):
        wrong = [
            None, True, 0, "", (), ((0, ["a"], []),), {}, {0: ["a"]}, [None], [[0, ["a"], []]], [()], [(0, ["a"])],
            [(0, ["a"], [], [])], [(True, ["b"], [])], [(False, ["a"], [])], [(None, [], ["x"])], [("0", [], ["x"])],
            [(-1, [], ["x"])], [(-1, ["b"], ["x"])], [(0, [], [])], [(0, ("a",), [])], [(0, ["a"], ("x",))],
            [(0, ["a"], ["X"])], [(0, ["a"], [1])], [(0, ["a"], [""])], [(0, ["a"], None)], [(0, None, ["a"])],
            [(0, ["a"], "x")], [(0, "a", ["x"])], RowError([]), [RowError()],
            # Not what stands there.
            [(0, ["b"], [])], [(0, ["a", "c"], [])], [(0, ["x"], ["a"])],
            # Beyond the row.
            [(3, [], ["x"])], [(2, ["b"], [])], [(1, ["b", "c"], [])], [(60, [], ["x"])], [(HUGE, [], ["x"])],
            # Not in their sequence, or not apart.
            [(1, ["b"], []), (0, ["a"], [])], [(0, ["a"], []), (1, ["b"], [])], [(0, [], ["x"]), (0, ["a"], [])],
            [(0, ["a"], []), (1, [], ["x"])], [(0, ["a"], []), (0, ["a"], [])], [(1, [], ["x"]), (1, [], ["x"])],
            [(0, ["a", "b"], []), (1, ["b"], [])], [(0, ["a"], []), (2, [], [])],
        ]
        for value in wrong:
            assert_error(self, InvalidSteps, value, lambda: rewritten(["a", "b"], value))
            assert_error(self, InvalidSteps, value, lambda: rewritten(words=["a", "b"], steps=value))
        self.assertEqual(rewritten(["a", "b"], [(0, ["a"], []), (2, [], ["x"])]), ["b", "x"])

    def test_nothing_is_shared(self):
        words, steps = ["a", "b"], [(1, [], ["x"])]
        found = rewritten(words, steps)
        self.assertIsNot(rewritten(words, []), words)
        found.clear()
        self.assertEqual([words, steps], [["a", "b"], [(1, [], ["x"])]])


class Whom(unittest.TestCase):
    """[52]"""

    def test_the_documents_examples(self):
        talk = History(talk_deeds())
        self.assertEqual(by_whom(talk, {"ann": 2, "bob": 1}), [("we", "ann"), ("not", "bob"), ("go", "ann")])
        self.assertEqual(by_whom(talk, {"ann": 2, "bob": 2}), [("we", "ann"), ("not", "bob")])
        self.assertEqual(list(known_since(talk, ("ann", 1)).items()), [("ann", 1), ("bob", 0), ("cy", 0)])

    def test_known_by_the_own_hand_and_by_strikes(self):
        talk = History(talk_deeds())
        self.assertEqual(known_since(talk, ("ann", 2)), {"ann": 2})
        self.assertEqual(known_since(history=talk, thing=B), {"bob": 0})
        deeds = {**talk_deeds(), "amy": [("strike", B, {"ann": 2, "bob": 1})]}
        self.assertEqual(list(known_since(History(deeds), B).items()), [("amy", 0), ("bob", 0)])

    def test_all_views(self):
        for history, deeds, views in samples(52):
            for view in views:
                wanted = [(deeds[hand][at][1], hand) for hand, at in shown(history, view)]
                self.assertEqual(by_whom(history=history, one=view), wanted)
            for thing in history.things():
                wanted = []
                for hand in sorted(deeds):
                    has = [at for at, deed in enumerate(deeds[hand])
                           if (hand, at) == thing or deed[-1].get(thing[0], 0) > thing[1]]
                    wanted += [(hand, at) for at in has[:1]]
                self.assertEqual(list(known_since(history, thing).items()), wanted)


class Lacks(unittest.TestCase):
    """[53]"""

    def test_the_documents_examples(self):
        talk = History(talk_deeds())
        self.assertEqual(lacks(talk, {"ann": 3}, whole(talk)), [B, ("bob", 1), C])
        self.assertEqual(words_of(talk, whole(talk), "ann"), ["we", "up"])

    def test_other_way_about_and_none(self):
        talk = History(talk_deeds())
        self.assertEqual([lacks(talk, whole(talk), {"ann": 3}), lacks(talk, {}, {})], [[], []])
        self.assertEqual(lacks(history=talk, one={"bob": 1, "ann": 2}, other={"ann": 3}), [("ann", 2)])
        self.assertEqual(lacks(talk, {"ann": 1}, {"cy": 1, "bob": 1, "ann": 2}), [("ann", 1), B, C])
        self.assertEqual(words_of(talk, whole(talk), "dan"), [])
        self.assertEqual([words_of(talk, {"ann": 2}, "bob"), words_of(History({}), {}, "ann")], [[], []])

    def test_all_views(self):
        for history, deeds, one, other in pairs(53):
            marks = [(hand, at) for hand in sorted(other) for at in range(other[hand])]
            self.assertEqual(lacks(history, one, other), [mark for mark in marks if mark[1] >= one.get(mark[0], 0)])
            for hand in [*deeds, "zoe"]:
                wanted = [deeds[owner][at][1] for owner, at in shown(history, one) if owner == hand]
                self.assertEqual(words_of(history=history, one=one, hand=hand), wanted)


class Wrong(unittest.TestCase):
    """[2]"""

    def test_wrong_arguments(self):
        talk = History(talk_deeds())
        histories, views = (InvalidHistory, NO_HISTORIES), (InvalidView, NO_TALK_VIEWS)
        for call in [kept, changes, lacks]:
            good = {"history": talk, "one": {"ann": 2}, "other": {"bob": 1, "ann": 2}}
            assert_errors(self, call, good, {"history": histories, "one": views, "other": views})
        assert_errors(self, by_whom, {"history": talk, "one": {"ann": 2}}, {"history": histories, "one": views})
        things = (InvalidMark, no_things(talk))
        assert_errors(self, known_since, {"history": talk, "thing": A}, {"history": histories, "thing": things})
        good = {"history": talk, "one": {"ann": 2}, "hand": "ann"}
        wrong = {"history": histories, "one": views, "hand": (InvalidHand, NO_WORDS)}
        assert_errors(self, words_of, good, wrong)


class Limits(unittest.TestCase):
    """[3]"""

    def test_the_largest_history_is_asked_at_once(self):
        history = History(largest_deeds())
        views = [{}, whole(history), *[history.deeds(hand)[-1][-1] for hand in history.hands()]]
        begun = time.perf_counter()
        for one, other in itertools.product(views, repeat=2):
            self.assertEqual(rewritten(row(history, one), changes(history, one, other)), row(history, other))
        self.assertLess(time.perf_counter() - begun, 5)

    def test_long_rows(self):
        words = ["word"] * 60
        steps = [(at, ["word"], ["x", "y"]) for at in range(0, 60, 2)]
        self.assertEqual(rewritten(words, steps), ["x", "y", "word"] * 30)


if __name__ == "__main__":
    unittest.main()
