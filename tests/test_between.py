import time
import unittest

import kinwords
from samples import HANDS, chain_deeds, largest_deeds, many_typed, small_deeds, talk_deeds
from slow import neighbours_of, views_of
from unmixed.between import between, came_between, parted_since, why_between
from unmixed.errors import InvalidHistory, InvalidMark, InvalidView
from unmixed.histories import History, past_of
from unmixed.orders import decided, order, order_in
from unmixed.views import least_view, whole
from wrongs import NO_HISTORIES, NO_TALK_VIEWS, assert_errors, no_things

A, B, C, D, E = [(hand, 0) for hand in HANDS]


def many():
    return [(History(deeds), neighbours_of(deeds)) for deeds in [*small_deeds(33, 40, 10), *many_typed(33, 30, 12)]]


class Between(unittest.TestCase):
    """[33]"""

    def test_the_documents_example(self):
        self.assertEqual(between(History(talk_deeds()), ("ann", 2), A), [B, C, ("ann", 1)])

    def test_whichever_comes_first(self):
        talk = History(talk_deeds())
        self.assertEqual(between(talk, A, ("ann", 1)), [B, C])
        self.assertEqual(between(history=talk, one=("ann", 1), other=A), [B, C])

    def test_nothing(self):
        talk = History(talk_deeds())
        self.assertEqual([between(talk, B, B), between(talk, B, C), between(talk, C, B)], [[], [], []])

    def test_random_histories(self):
        for history, _ in many():
            found = order(history)
            for at, one in enumerate(found):
                for place, other in enumerate(found):
                    self.assertEqual(between(history, one, other), found[min(at, place) + 1:max(at, place)])


class Came(unittest.TestCase):
    """[34]"""

    def test_the_documents_example(self):
        self.assertEqual(came_between(History(talk_deeds()), ("ann", 1)), ([B, C], [("ann", 2)]))

    def test_the_rows_begin_and_its_end(self):
        talk, chain = History(talk_deeds()), History(chain_deeds())
        self.assertEqual(came_between(talk, A), ([], [B, C, ("ann", 1), ("ann", 2)]))
        self.assertEqual(came_between(history=talk, thing=("ann", 2)), ([], []))
        self.assertEqual(came_between(chain, A), ([("ann", 3), C, ("cy", 1), ("ann", 1), B], []))
        self.assertEqual(came_between(chain, ("ann", 1)), ([("ann", 3), C, ("cy", 1)], [B]))

    def test_all_came_later_or_apart(self):
        for history, neighbours in many():
            found = order(history)
            for thing, (left, right) in neighbours.items():
                ahead, behind = came_between(history, thing)
                self.assertEqual(ahead, kinwords.inside(found, left, thing))
                self.assertEqual(behind, kinwords.inside(found, thing, right))
                for other in ahead + behind:
                    self.assertGreaterEqual(other[1], past_of(history, thing).get(other[0], 0))


class Why(unittest.TestCase):
    """[35]"""

    def test_the_documents_example(self):
        talk = History(talk_deeds())
        self.assertEqual(why_between(talk, ("ann", 1)), ({"ahead": [B, C]}, {"behind": [("ann", 2)]}))
        self.assertEqual(why_between(talk, B), ({}, {"mark": [C]}))

    def test_words_ascend_and_members_stand_as_in_the_order(self):
        chain = History(chain_deeds())
        ahead, behind = why_between(history=chain, thing=A)
        self.assertEqual([ahead, behind], [{"ahead": [("ann", 3), C, ("cy", 1), ("ann", 1), B]}, {}])
        deeds = talk_deeds()
        deeds["dan"] = [("put", "n", A, None, {"ann": 1}), ("put", "o", D, None, {"ann": 1, "dan": 1})]
        ahead, behind = why_between(History(deeds), ("ann", 1))
        self.assertEqual(ahead, {"ahead": [B, C]})
        self.assertEqual(list(behind.items()), [("behind", [("ann", 2)]), ("mark", [D, ("dan", 1)])])

    def test_random_histories(self):
        words = set()
        for history, neighbours in many():
            for thing in neighbours:
                told = why_between(history, thing)
                for listed, found in zip(came_between(history, thing), told):
                    wanted = {}
                    for word in ["ahead", "behind", "farther", "mark"]:
                        members = [other for other in listed if decided(history, thing, other)[0] == word]
                        if members:
                            wanted[word] = members
                    self.assertEqual(list(found.items()), list(wanted.items()))
                    words.update(found)
                self.assertNotIn("behind", told[0])
        self.assertEqual(words, {"ahead", "behind", "farther", "mark"})


class Parted(unittest.TestCase):
    """[36]"""

    def test_the_documents_example(self):
        found = parted_since(History(talk_deeds()), {"ann": 2})
        self.assertEqual(found, [(A, ("ann", 1), 2), (("ann", 1), None, 1)])

    def test_the_empty_view(self):
        self.assertEqual(parted_since(History(talk_deeds()), {}), [(None, None, 5)])
        self.assertEqual(parted_since(History({}), {}), [])

    def test_the_rows_begin(self):
        chain = History(chain_deeds())
        self.assertEqual(parted_since(history=chain, view={"bob": 1, "ann": 1}), [(None, B, 4)])
        self.assertEqual(parted_since(chain, {"ann": 1}), [(None, A, 5)])

    def test_the_view_of_all(self):
        for history, _ in many():
            self.assertEqual(parted_since(history, whole(history)), [])

    def test_random_views(self):
        for deeds in small_deeds(36, 25, 7):
            history = History(deeds)
            found = order(history)
            for view in views_of(deeds):
                told = parted_since(history, view)
                fenced = [None, *order_in(history, view), None]
                pairs = [(*pair, len(kinwords.inside(found, *pair))) for pair in zip(fenced, fenced[1:])]
                self.assertEqual(told, [pair for pair in pairs if pair[2]])
                self.assertEqual(sum(many for _, _, many in told), len(found) - len(order_in(history, view)))


class Wrong(unittest.TestCase):
    """[2]"""

    def test_wrong_arguments(self):
        chain = History(chain_deeds())
        histories, things = (InvalidHistory, NO_HISTORIES), (InvalidMark, no_things(chain))
        good = {"history": chain, "one": A, "other": B}
        assert_errors(self, between, good, {"history": histories, "one": things, "other": things})
        for call in [came_between, why_between]:
            assert_errors(self, call, {"history": chain, "thing": A}, {"history": histories, "thing": things})
        good = {"history": History(talk_deeds()), "view": {"ann": 2}}
        assert_errors(self, parted_since, good, {"history": histories, "view": (InvalidView, NO_TALK_VIEWS)})


class Limits(unittest.TestCase):
    """[3]"""

    def test_the_largest_history_is_asked_at_once(self):
        history = History(largest_deeds())
        begun = time.perf_counter()
        for thing in history.things():
            self.assertEqual(len(why_between(history, thing)), 2)
            self.assertTrue(all(len(between(history, thing, other)) < 24 for other in history.things()))
            parted_since(history, least_view(history, [thing]))
        self.assertLess(time.perf_counter() - begun, 5)


if __name__ == "__main__":
    unittest.main()
