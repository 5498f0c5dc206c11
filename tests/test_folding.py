import random
import time
import unittest

from samples import HANDS, both_deeds, largest_deeds, settling_deeds, small_deeds, talk_deeds
from slow import neighbours_of, told_order, views_of
from unmixed.errors import InvalidHistory, InvalidView, Refused
from unmixed.folding import folded, folded_view, is_foldable, is_settled
from unmixed.histories import History, grown
from unmixed.shown import neighbours_at, put_at, row, rows_seen, seen_by, shown, strike_at
from unmixed.views import whole
from wrongs import NO_HISTORIES, NO_TALK_VIEWS, assert_error, assert_errors

A, B, C, D, E = [(hand, 0) for hand in HANDS]


def gone_deeds():
    """The document's example."""
    return {
        "ann": [
            ("put", "a", None, None, {}), ("put", "b", A, None, {"ann": 1}), ("strike", A, {"ann": 2}),
        ],
        "bob": [("put", "c", None, A, {"ann": 3})],
    }


def marks_in(view):
    return [(hand, at) for hand in sorted(view) for at in range(view[hand])]


def has(view, other):
    return all(view.get(hand, 0) >= other[hand] for hand in other)


def later_marks(deeds, view):
    return [mark for mark in marks_in({hand: len(deeds[hand]) for hand in deeds}) if mark not in marks_in(view)]


def told_settled(deeds, view):
    """[58]"""
    return all(has(deeds[hand][at][-1], view) for hand, at in later_marks(deeds, view))


def told_gone(deeds, view):
    return [deeds[hand][at][1] for hand, at in marks_in(view) if deeds[hand][at][0] == "strike"]


def told_foldable(deeds, view):
    """[59]"""
    gone = told_gone(deeds, view)
    if not told_settled(deeds, view):
        return False
    for hand, at in later_marks(deeds, view):
        deed = deeds[hand][at]
        if deed[0] == "strike" and deed[1] in gone or deed[0] == "put" and deed[2] in gone:
            return False
    return True


def told_folded(deeds, view):
    """[60], word by word, as the deeds of the folded history."""
    gone, later, lowest = told_gone(deeds, view), later_marks(deeds, view), min(deeds, default=None)
    neighbours = neighbours_of(deeds)
    things = [thing for thing in told_order(neighbours) if thing in marks_in(view) and thing not in gone]
    found = {hand: [] for hand in deeds}
    names = {None: None}
    for at, thing in enumerate(things):
        past = {lowest: at} if at else {}
        found[lowest].append(("put", deeds[thing[0]][thing[1]][1], (lowest, at - 1) if at else None, None, past))
        names[thing] = (lowest, at)
    for mark in later:
        names[mark] = (mark[0], mark[1] - view.get(mark[0], 0) + (len(things) if mark[0] == lowest else 0))
    for mark in later:
        deed = deeds[mark[0]][mark[1]]
        past = {}
        for other in marks_in(deed[-1]):
            if other in later:
                past[other[0]] = max(past.get(other[0], 0), names[other][1] + 1)
        if things:
            past[lowest] = max(past.get(lowest, 0), len(things))
        if deed[0] == "strike":
            found[mark[0]].append(("strike", names[deed[1]], past))
        else:
            seen = [None, *[thing for thing in told_order(neighbours) if thing in marks_in(deed[-1])], None]
            seen = [thing for thing in seen if thing not in gone]
            right = seen[seen.index(deed[2]) + 1]
            found[mark[0]].append(("put", deed[1], names[deed[2]], names[right], past))
    return {hand: found[hand] for hand in found if found[hand]}


def samples(seed, many, before=7, after=5):
    chance = random.Random(seed)
    found = [{}, both_deeds(), talk_deeds(), gone_deeds(), *small_deeds(seed, many // 3, 5)]
    for _ in range(many):
        hands = chance.sample(HANDS, chance.randint(1, 4))
        found.append(settling_deeds(chance, hands, chance.randint(0, before), chance.randint(0, after))[0])
    return [(History(deeds), deeds) for deeds in found]


def foldable(seed, many):
    for history, deeds in samples(seed, many):
        for view in views_of(deeds):
            if told_foldable(deeds, view):
                yield history, deeds, view


class Settled(unittest.TestCase):
    """[58]"""

    def test_the_documents_example(self):
        self.assertIs(is_settled(History(gone_deeds()), {"ann": 1}), True)

    def test_each_deed_outside_has_all_of_the_view(self):
        talk = History(talk_deeds())
        self.assertIs(is_settled(talk, {"ann": 2}), True)
        self.assertIs(is_settled(history=talk, view={"ann": 3}), False)
        self.assertIs(is_settled(talk, {"bob": 1, "ann": 2}), False)
        self.assertIs(is_settled(talk, {"ann": 1}), True)
        self.assertEqual([is_settled(talk, {}), is_settled(talk, whole(talk)), is_settled(History({}), {})], [True] * 3)

    def test_all_views(self):
        many = {True: 0, False: 0}
        for history, deeds in samples(58, 60):
            for view in views_of(deeds):
                found = is_settled(history, view)
                self.assertIs(found, told_settled(deeds, view))
                many[found] += 1
        self.assertTrue(min(many.values()) > 50)


class Foldable(unittest.TestCase):
    """[59]"""

    def test_the_documents_example(self):
        self.assertIs(is_foldable(History(gone_deeds()), {"ann": 3}), True)

    def test_not_settled(self):
        self.assertIs(is_foldable(history=History(talk_deeds()), view={"ann": 3}), False)

    def test_what_refers_to_struck_things(self):
        for deed, wanted in [
            (("strike", A, {"ann": 3}), False), (("put", "c", A, ("ann", 1), {"ann": 3}), False),
            (("strike", ("ann", 1), {"ann": 3}), True), (("put", "c", None, A, {"ann": 3}), True),
            (("put", "c", ("ann", 1), None, {"ann": 3}), True),
        ]:
            deeds = {**gone_deeds(), "bob": [deed]}
            self.assertIs(is_foldable(History(deeds), {"ann": 3}), wanted)
            self.assertIs(is_foldable(History(deeds), {"ann": 2}), True)

    def test_things_struck_behind_the_view_are_no_hindrance(self):
        deeds = {**gone_deeds(), "bob": [
            ("put", "c", None, A, {"ann": 3}), ("strike", B, {"ann": 3, "bob": 1}),
            ("put", "d", B, A, {"ann": 3, "bob": 2}), ("strike", B, {"ann": 3, "bob": 3}),
        ]}
        self.assertIs(is_foldable(History(deeds), {"ann": 3}), True)
        self.assertIs(is_foldable(History(deeds), {"ann": 3, "bob": 2}), False)

    def test_all_views(self):
        many = {True: 0, False: 0}
        for history, deeds in samples(59, 60):
            for view in views_of(deeds):
                found = is_foldable(history, view)
                self.assertIs(found, told_foldable(deeds, view))
                many[found] += told_settled(deeds, view)
        self.assertTrue(min(many.values()) > 20)

    def test_what_is_put_at_places_never_hinders(self):
        chance = random.Random(591)
        for _ in range(20):
            deeds, view = settling_deeds(chance, HANDS[:3], 8, 0)
            history = History(deeds)
            for hand in HANDS[:3]:
                place = chance.randint(0, len(row(history, view)))
                history = grown(history, hand, ("put", "n", *neighbours_at(history, view, place), view))
            for _ in range(6):
                hand = chance.choice(HANDS[:3])
                length = len(row(history, seen_by(history, hand)))
                history = put_at(history, hand, chance.randint(0, length), "x")
                history = strike_at(history, hand, chance.randint(0, length))
            self.assertIs(is_foldable(history, view), True)


class Folded(unittest.TestCase):
    """[60]"""

    def test_the_documents_example(self):
        found = folded(History(gone_deeds()), {"ann": 3})
        self.assertEqual(found.hands(), ["ann", "bob"])
        self.assertEqual(found.deeds("ann"), [("put", "b", None, None, {})])
        self.assertEqual(found.deeds("bob"), [("put", "c", None, A, {"ann": 1})])

    def test_what_was_put_side_by_side_is_typed_forward(self):
        found = folded(History(talk_deeds()), whole(History(talk_deeds())))
        self.assertEqual(found, History({"ann": [
            ("put", "we", None, None, {}), ("put", "not", A, None, {"ann": 1}),
            ("put", "may", ("ann", 1), None, {"ann": 2}), ("put", "up", ("ann", 2), None, {"ann": 3}),
        ]}))

    def test_by_the_lowest_hand_also_where_it_has_put_nothing(self):
        deeds = {
            "bob": [("put", "a", None, None, {}), ("put", "b", B, None, {"bob": 1})],
            "ann": [("strike", B, {"bob": 2}), ("put", "c", ("bob", 1), None, {"bob": 2, "ann": 1})],
        }
        found = folded(history=History(deeds), view={"bob": 2})
        self.assertEqual(found, History({"ann": [
            ("put", "a", None, None, {}), ("put", "b", A, None, {"ann": 1}), ("strike", A, {"ann": 2}),
            ("put", "c", ("ann", 1), None, {"ann": 3}),
        ]}))
        found = folded(History(deeds), {"ann": 1, "bob": 2})
        self.assertEqual(found, History({"ann": [("put", "b", None, None, {}), ("put", "c", A, None, {"ann": 1})]}))

    def test_numbers_count_on_behind_the_folded_things(self):
        deeds = {
            "ann": [("put", "a", None, None, {}), ("strike", A, {"ann": 1}), ("put", "b", None, A, {"ann": 2})],
            "bob": [
                ("put", "c", ("ann", 2), A, {"ann": 3}), ("strike", B, {"ann": 3, "bob": 1}),
                ("put", "d", B, A, {"ann": 3, "bob": 2}),
            ],
        }
        found = folded(History(deeds), {"ann": 2})
        self.assertEqual(found, History({
            "ann": [("put", "b", None, None, {})],
            "bob": [
                ("put", "c", A, None, {"ann": 1}), ("strike", B, {"ann": 1, "bob": 1}),
                ("put", "d", B, None, {"ann": 1, "bob": 2}),
            ],
        }))

    def test_nothing_shown(self):
        deeds = {"ann": [("put", "a", None, None, {}), ("strike", A, {"ann": 1})]}
        self.assertEqual(folded(History(deeds), {"ann": 2}), History({}))
        deeds["bob"] = [("put", "b", None, A, {"ann": 2})]
        self.assertEqual(folded(History(deeds), {"ann": 2}), History({"bob": [("put", "b", None, None, {})]}))
        self.assertEqual(folded_view(History(deeds), {"ann": 2}, {"ann": 2, "bob": 1}), {"bob": 1})
        self.assertEqual(folded_view(History(deeds), {"ann": 2}, {"ann": 2}), {})

    def test_the_empty_view_and_the_empty_history(self):
        self.assertEqual(folded(History({}), {}), History({}))
        self.assertEqual(folded_view(History({}), {}, {}), {})
        for deeds in small_deeds(601, 20, 6):
            self.assertEqual(folded(History(deeds), {}), History(deeds))

    def test_all_views(self):
        many = 0
        for history, deeds, view in foldable(60, 60):
            found = folded(history, view)
            wanted = told_folded(deeds, view)
            self.assertEqual({hand: found.deeds(hand) for hand in found.hands()}, wanted)
            self.assertEqual(History(wanted), found)
            many += len(told_gone(deeds, view)) > 0
        self.assertGreater(many, 60)

    def test_what_is_not_foldable_is_refused(self):
        many = 0
        for history, deeds in samples(602, 30):
            for view in views_of(deeds):
                if not told_foldable(deeds, view):
                    assert_error(self, Refused, view, lambda: folded(history, view))
                    assert_error(self, Refused, view, lambda: folded_view(history, view, {}))
                    assert_error(self, Refused, view, lambda: folded_view(history, view, whole(history)))
                    many += 1
        self.assertGreater(many, 30)


class FoldedViews(unittest.TestCase):
    """[61]"""

    def test_the_documents_example(self):
        found = folded_view(History(gone_deeds()), {"ann": 3}, {"ann": 3, "bob": 1})
        self.assertEqual(list(found.items()), [("ann", 1), ("bob", 1)])

    def test_hands_ascend(self):
        deeds = {"bob": [("put", "a", None, None, {})], "ann": [("strike", B, {"bob": 1})]}
        found = folded_view(history=History(deeds), view={"bob": 1}, later={"bob": 1, "ann": 1})
        self.assertEqual(list(found.items()), [("ann", 2)])
        deeds["cy"] = [("put", "c", B, None, {"bob": 1})]
        found = folded_view(History(deeds), {"bob": 1}, {"cy": 1, "bob": 1, "ann": 1})
        self.assertEqual(list(found.items()), [("ann", 2), ("cy", 1)])

    def test_rows_of_all_later_views_stay(self):
        for history, deeds, view in foldable(61, 40):
            found = folded(history, view)
            for later in views_of(deeds):
                if has(later, view):
                    anew = folded_view(history, view, later)
                    self.assertEqual(row(found, anew), row(history, later))
                    self.assertEqual(list(anew), sorted(anew))
                    self.assertTrue(all(count > 0 for count in anew.values()))
                    many = len(shown(history, view)) + sum(later.values()) - sum(view.values())
                    self.assertEqual(sum(anew.values()), many)
                else:
                    assert_error(self, Refused, later, lambda: folded_view(history, view, later))

    def test_folded_and_folded_again(self):
        chance = random.Random(611)
        deeds, view = settling_deeds(chance, HANDS[:3], 10, 6)
        history = History(deeds)
        while not is_foldable(history, view):
            deeds, view = settling_deeds(chance, HANDS[:3], 10, 6)
            history = History(deeds)
        found = folded(history, view)
        again = folded(found, whole(found))
        self.assertEqual(row(again, whole(again)), row(history, whole(history)))
        self.assertEqual(again.size(), len(row(history, whole(history))))


class Wrong(unittest.TestCase):
    """[2]"""

    def test_wrong_arguments(self):
        talk = History(talk_deeds())
        histories, views = (InvalidHistory, NO_HISTORIES), (InvalidView, NO_TALK_VIEWS)
        for call in [is_settled, is_foldable, folded]:
            assert_errors(self, call, {"history": talk, "view": {"ann": 2}}, {"history": histories, "view": views})
        good = {"history": talk, "view": {"ann": 2}, "later": {"bob": 1, "ann": 2}}
        assert_errors(self, folded_view, good, {"history": histories, "view": views, "later": views})

    def test_refused_behind_all_others(self):
        talk = History(talk_deeds())
        unsettled = {"ann": 3}
        for later in [None, {"ann": True}, {"bob": 1}]:
            assert_error(self, InvalidView, later, lambda: folded_view(talk, unsettled, later))
        for later in [{}, {"ann": 3}, whole(talk)]:
            assert_error(self, Refused, unsettled, lambda: folded_view(talk, unsettled, later))
        later = {"ann": 1}
        assert_error(self, Refused, later, lambda: folded_view(talk, {"ann": 2}, later))


class Limits(unittest.TestCase):
    """[3]"""

    def test_the_largest_history_is_folded_at_once(self):
        history = History(largest_deeds())
        begun = time.perf_counter()
        found = folded(history, whole(history))
        self.assertEqual(row(found, whole(found)), row(history, whole(history)))
        chance = random.Random(612)
        for _ in range(5):
            deeds, view = settling_deeds(chance, HANDS, 18, 12)
            history = History(deeds)
            if is_foldable(history, view):
                self.assertEqual(row(folded(history, view), folded_view(history, view, whole(history))),
                                 row(history, whole(history)))
                self.assertEqual(rows_seen(folded(history, view), "zoe"), [[]])
        self.assertLess(time.perf_counter() - begun, 5)


if __name__ == "__main__":
    unittest.main()
