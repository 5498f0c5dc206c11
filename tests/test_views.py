import random
import unittest

from samples import HANDS, NO_MARKS, both_deeds, nested, random_deeds, talk_deeds
from slow import views_of
from unmixed.errors import InvalidHistory, InvalidMark, InvalidView, RowError
from unmixed.histories import History, past_of
from unmixed.views import (
    has_view, heads, is_sequence, is_view, joined, least_view, part, sequence, shared, whole,
)
from wrongs import HUGE, NO_HISTORIES, NO_TALK_VIEWS


def marks_in(view):
    return [(hand, at) for hand in sorted(view) for at in range(view[hand])]


def many_histories():
    chance = random.Random(15)
    return [random_deeds(chance, HANDS[:chance.randint(1, 4)], chance.randint(0, 8)) for _ in range(60)]


class Views(unittest.TestCase):
    """[15]"""

    def test_the_documents_example(self):
        both = History(both_deeds())
        self.assertEqual(whole(both), {"ann": 2, "bob": 2})
        self.assertIs(is_view(both, {"ann": 2}), True)

    def test_views_of_a_history(self):
        talk = History(talk_deeds())
        for view in [{}, {"ann": 1}, {"ann": 3}, {"ann": 2, "bob": 1}, {"bob": 2, "ann": 2}, {"cy": 1, "ann": 2}]:
            self.assertIs(is_view(talk, view), True)
            self.assertIs(is_view(history=talk, value=view), True)

    def test_what_is_no_view(self):
        talk = History(talk_deeds())
        for value in [*NO_TALK_VIEWS, nested(40), {"ann": nested(39)}]:
            self.assertIs(is_view(talk, value), False, repr(value))

    def test_just_the_closed_ones_are_views(self):
        for deeds in many_histories():
            history = History(deeds)
            hands = history.hands()
            found = [{}]
            for hand in hands:
                counts = range(len(deeds[hand]) + 2)
                found = [{**view, **({hand: count} if count else {})} for view in found for count in counts]
            self.assertEqual([view for view in found if is_view(history, view)], views_of(deeds))

    def test_the_empty_history_has_the_empty_view(self):
        empty = History({})
        self.assertEqual(whole(empty), {})
        self.assertIs(is_view(empty, {}), True)
        self.assertIs(is_view(empty, {"ann": 1}), False)

    def test_the_view_of_all_deeds_ascends(self):
        deeds = talk_deeds()
        talk = History({hand: deeds[hand] for hand in ["cy", "bob", "ann"]})
        self.assertEqual(list(whole(history=talk).items()), [("ann", 3), ("bob", 2), ("cy", 1)])

    def test_wrong_histories(self):
        for history in NO_HISTORIES:
            for call in [lambda: is_view(history, None), lambda: whole(history), lambda: joined(history, None, None),
                         lambda: shared(history, None, None), lambda: has_view(history, None, None),
                         lambda: heads(history, None), lambda: least_view(history, None),
                         lambda: part(history, None), lambda: sequence(history), lambda: is_sequence(history, None)]:
                with self.assertRaises(InvalidHistory) as held:
                    call()
                self.assertIs(held.exception.value, history)


class Two(unittest.TestCase):
    """[16]"""

    def test_the_documents_example(self):
        both = History(both_deeds())
        self.assertEqual(shared(both, {"ann": 2}, {"ann": 1, "bob": 2}), {"ann": 1})

    def test_ordinary_ones(self):
        talk = History(talk_deeds())
        one, other = {"cy": 1, "ann": 2}, {"bob": 1, "ann": 3}
        self.assertEqual(list(joined(talk, one, other).items()), [("ann", 3), ("bob", 1), ("cy", 1)])
        self.assertEqual(list(shared(talk, one, other).items()), [("ann", 2)])
        turned = {"cy": 1, "bob": 2, "ann": 2}
        self.assertEqual(list(shared(talk, turned, whole(talk)).items()), [("ann", 2), ("bob", 2), ("cy", 1)])
        self.assertIs(has_view(talk, one, other), False)
        self.assertIs(has_view(talk, other, one), False)
        self.assertIs(has_view(talk, other, {"ann": 3}), True)
        self.assertIs(has_view(talk, {"ann": 3}, other), False)

    def test_by_name(self):
        talk = History(talk_deeds())
        names = {"history": talk, "one": {"ann": 1}, "other": {"ann": 2}}
        self.assertEqual([joined(**names), shared(**names), has_view(**names)], [{"ann": 2}, {"ann": 1}, False])

    def test_empty_views(self):
        talk = History(talk_deeds())
        self.assertEqual([joined(talk, {}, {}), shared(talk, {}, {}), has_view(talk, {}, {})], [{}, {}, True])
        self.assertEqual([joined(talk, {}, {"ann": 1}), shared(talk, {"ann": 1}, {})], [{"ann": 1}, {}])
        self.assertEqual([has_view(talk, {}, {"ann": 1}), has_view(talk, {"ann": 1}, {})], [False, True])

    def test_they_are_of_the_marks_of_both(self):
        for deeds in many_histories():
            history = History(deeds)
            views = views_of(deeds)
            for one in views:
                for other in views[::3]:
                    ones, others = set(marks_in(one)), set(marks_in(other))
                    self.assertEqual(marks_in(joined(history, one, other)), sorted(ones | others))
                    self.assertEqual(marks_in(shared(history, one, other)), sorted(ones & others))
                    self.assertIs(has_view(history, one, other), ones >= others)

    def test_wrong_views_one_by_one(self):
        talk = History(talk_deeds())
        for call in [joined, shared, has_view]:
            for view in [*NO_TALK_VIEWS, nested(40)]:
                for arguments in [(view, None), (view, {}), ({}, view), ({"ann": 1}, view)]:
                    with self.assertRaises(InvalidView) as held:
                        call(talk, *arguments)
                    self.assertIs(held.exception.value, view)


class HeadsAndLeast(unittest.TestCase):
    """[17]"""

    def test_the_documents_example(self):
        both = History(both_deeds())
        self.assertEqual(heads(both, {"ann": 2, "bob": 1}), [("ann", 1), ("bob", 0)])
        self.assertEqual(least_view(both, [("bob", 1)]), {"bob": 2})

    def test_heads(self):
        talk = History(talk_deeds())
        self.assertEqual(heads(talk, whole(talk)), [("ann", 2), ("bob", 1), ("cy", 0)])
        self.assertEqual(heads(talk, {"bob": 1, "ann": 2}), [("bob", 0)])
        self.assertEqual(heads(talk, {"cy": 1, "bob": 2, "ann": 3}), [("ann", 2), ("bob", 1), ("cy", 0)])
        self.assertEqual(heads(history=talk, view={"ann": 3}), [("ann", 2)])
        self.assertEqual(heads(talk, {}), [])

    def test_least_views(self):
        talk = History(talk_deeds())
        self.assertEqual(least_view(talk, []), {})
        self.assertEqual(least_view(talk, [("ann", 0)]), {"ann": 1})
        self.assertEqual(least_view(history=talk, marks=[("cy", 0)]), {"ann": 2, "cy": 1})
        several = least_view(talk, [("cy", 0), ("bob", 0), ("ann", 2), ("cy", 0)])
        self.assertEqual(list(several.items()), [("ann", 3), ("bob", 1), ("cy", 1)])

    def test_a_view_is_the_least_one_of_its_heads(self):
        for deeds in many_histories():
            history = History(deeds)
            views = views_of(deeds)
            for view in views:
                tops = heads(history, view)
                self.assertEqual(tops, [mark for mark in marks_in(view) if not any(
                    past_of(history, other).get(mark[0], 0) > mark[1] for other in marks_in(view))])
                self.assertEqual(least_view(history, tops), view)
                self.assertEqual(least_view(history, marks_in(view)), view)

    def test_no_view_is_less_than_the_least_one(self):
        for deeds in many_histories():
            history = History(deeds)
            for mark in marks_in(whole(history)):
                least = least_view(history, [mark])
                self.assertIn(mark, marks_in(least))
                for view in views_of(deeds):
                    self.assertTrue(mark not in marks_in(view) or has_view(history, view, least))

    def test_wrong_views(self):
        talk = History(talk_deeds())
        for view in [*NO_TALK_VIEWS, nested(40)]:
            for call in [heads, part]:
                with self.assertRaises(InvalidView) as held:
                    call(talk, view)
                self.assertIs(held.exception.value, view)

    def test_marks_that_are_no_list(self):
        for marks in [None, True, 0, "ann", (), (("ann", 0),), {}, {("ann", 0): 1}, ("ann", 0), RowError(), History({})]:
            with self.assertRaises(InvalidMark) as held:
                least_view(History(talk_deeds()), marks)
            self.assertIs(held.exception.value, marks)

    def test_the_first_wrong_member(self):
        talk = History(talk_deeds())
        for mark in [*NO_MARKS, ("ann", 3), ("bob", HUGE), ("dan", 0), nested(38)]:
            for marks in [[mark], [("ann", 0), mark], [mark, ("dan", 9)], [("bob", 1), mark, None]]:
                with self.assertRaises(InvalidMark) as held:
                    least_view(talk, marks)
                self.assertIs(held.exception.value, mark)


class Parts(unittest.TestCase):
    """[18]"""

    def test_parts(self):
        talk = History(talk_deeds())
        deeds = talk_deeds()
        self.assertEqual(part(talk, {"bob": 1, "ann": 2}), History({"ann": deeds["ann"][:2], "bob": deeds["bob"][:1]}))
        found = part(talk, {"cy": 1, "bob": 1, "ann": 2})
        self.assertEqual([found.hands(), list(whole(found)), found.things()[2:]], [
            ["ann", "bob", "cy"], ["ann", "bob", "cy"], [("bob", 0), ("cy", 0)],
        ])
        self.assertEqual(part(history=talk, view={}), History({}))
        self.assertEqual(part(talk, whole(talk)), talk)
        self.assertEqual(part(History({}), {}), History({}))

    def test_every_view_has_a_part(self):
        for deeds in many_histories():
            history = History(deeds)
            for view in views_of(deeds):
                self.assertEqual(whole(part(history, view)), view)
                self.assertEqual(part(history, view), History({hand: deeds[hand][:view[hand]] for hand in view}))


class Sequences(unittest.TestCase):
    """[18]"""

    def test_any_sequence_is_one(self):
        for deeds in many_histories():
            history = History(deeds)
            found = sequence(history)
            self.assertEqual(sorted(found), marks_in(whole(history)))
            for at, mark in enumerate(found):
                self.assertTrue(set(marks_in(past_of(history, mark))) <= set(found[:at]))
            self.assertIs(is_sequence(history, found), True)

    def test_the_empty_one(self):
        self.assertEqual(sequence(history=History({})), [])
        self.assertIs(is_sequence(History({}), []), True)
        self.assertIs(is_sequence(History({}), [("ann", 0)]), False)

    def test_exchanged_neighbours(self):
        for deeds in many_histories():
            history = History(deeds)
            found = sequence(history)
            for at in range(len(found) - 1):
                turned = [*found[:at], found[at + 1], found[at], *found[at + 2:]]
                is_in_past = found[at] in marks_in(past_of(history, found[at + 1]))
                self.assertIs(is_sequence(history, turned), not is_in_past)

    def test_sequences_of_both(self):
        both = History(both_deeds())
        self.assertIs(is_sequence(both, [("bob", 0), ("ann", 0), ("bob", 1), ("ann", 1)]), True)
        self.assertIs(is_sequence(history=both, value=[("bob", 1), ("ann", 0), ("bob", 0), ("ann", 1)]), False)

    def test_a_deed_less_or_more(self):
        both = History(both_deeds())
        found = sequence(both)
        for at in range(4):
            self.assertIs(is_sequence(both, found[:at] + found[at + 1:]), False)
            self.assertIs(is_sequence(both, [*found, found[at]]), False)
            self.assertIs(is_sequence(both, [*found[:at], found[at], *found[at:]]), False)
            self.assertIs(is_sequence(both, [*found[:3], found[at]]), at == 3)
        self.assertIs(is_sequence(both, [*found, ("cy", 0)]), False)
        self.assertIs(is_sequence(both, [*found, ("ann", HUGE)]), False)

    def test_what_is_no_list_of_marks(self):
        both = History(both_deeds())
        found = sequence(both)
        for value in [None, True, 0, "", {}, (), tuple(found), {mark: 1 for mark in found}, [], RowError(found), both,
                      nested(40), [list(mark) for mark in found]]:
            self.assertIs(is_sequence(both, value), False)
        for mark in NO_MARKS:
            self.assertIs(is_sequence(both, [*found, mark]), False)
            self.assertIs(is_sequence(both, [*found[:3], mark]), False)
        one = History({"ann": [("put", "x", None, None, {}), ("put", "y", ("ann", 0), None, {"ann": 1})]})
        self.assertIs(is_sequence(one, [("ann", 0), ("ann", 1)]), True)
        self.assertIs(is_sequence(one, [("ann", False), ("ann", True)]), False)


if __name__ == "__main__":
    unittest.main()
