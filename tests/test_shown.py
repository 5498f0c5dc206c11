import time
import unittest

from samples import HANDS, NO_WORDS, back_deeds, largest_deeds, many_typed, small_deeds, talk_deeds
from slow import neighbours_of, told_order, views_of
from unmixed.errors import InvalidHand, InvalidHistory, InvalidMark, InvalidPlace, InvalidView, InvalidWord
from unmixed.histories import History, past_of
from unmixed.shown import (
    neighbours_at, place_shown, put_at, row, rows_seen, seen_by, shown, strike_at, strikers, struck, thing_shown,
    who_shows,
)
from unmixed.views import least_view, sequence, whole
from wrongs import HUGE, NO_HISTORIES, NO_TALK_VIEWS, assert_errors, no_things

A, B, C, D, E = [(hand, 0) for hand in HANDS]
X = ("put", "x", None, None, {})
NO_PLACES = [
    None, True, False, -1, -HUGE, HUGE, "", "0", [], [0], (), (0,), {}, {0: 0}, A, InvalidPlace(0), History({}),
]


def struck_deeds():
    """Struck at the begin, side by side, by two hands, at the end: (z) a (b) (c) d (e)."""
    return {
        "ann": [
            ("put", "z", None, None, {}), ("put", "a", A, None, {"ann": 1}), ("put", "b", ("ann", 1), None, {"ann": 2}),
            ("put", "c", ("ann", 2), None, {"ann": 3}), ("put", "d", ("ann", 3), None, {"ann": 4}),
            ("put", "e", ("ann", 4), None, {"ann": 5}), ("strike", A, {"ann": 6}), ("strike", ("ann", 2), {"ann": 7}),
            ("strike", ("ann", 3), {"ann": 8}), ("strike", ("ann", 5), {"ann": 9}),
        ],
        "bob": [("strike", ("ann", 2), {"ann": 6})],
    }


def many():
    """Histories with a slow telling of their views: what is struck, the order, and the row."""
    return [(History(deeds), deeds) for deeds in [*many_typed(45, 15, 8, hands=4), *small_deeds(45, 20, 6)]]


def marks_in(view):
    return [(hand, at) for hand in sorted(view) for at in range(view[hand])]


def told_struck(deeds, view):
    found = [deeds[hand][at][1] for hand, at in marks_in(view) if deeds[hand][at][0] == "strike"]
    return sorted(set(found))


def told_in(deeds, view):
    neighbours = neighbours_of(deeds)
    return told_order({thing: neighbours[thing] for thing in neighbours if thing in marks_in(view)})


def told_shown(deeds, view):
    gone = told_struck(deeds, view)
    return [thing for thing in told_in(deeds, view) if thing not in gone]


class Struck(unittest.TestCase):
    """[45]"""

    def test_the_documents_example(self):
        talk = History(talk_deeds())
        self.assertEqual(row(talk, whole(talk)), ["we", "not", "may", "up"])
        self.assertEqual(struck(talk, whole(talk)), [("ann", 1)])
        self.assertEqual(strikers(talk, whole(talk), ("ann", 1)), [("bob", 1)])
        self.assertEqual(shown(talk, {"ann": 2}), [A, ("ann", 1)])

    def test_by_several(self):
        history = History(struck_deeds())
        self.assertEqual(struck(history, whole(history)), [A, ("ann", 2), ("ann", 3), ("ann", 5)])
        self.assertEqual(strikers(history, whole(history), ("ann", 2)), [("ann", 7), B])
        self.assertEqual(strikers(history=history, view={"bob": 1, "ann": 7}, thing=("ann", 2)), [B])
        self.assertEqual(strikers(history, whole(history), ("ann", 1)), [])
        self.assertEqual(struck(history=history, view={"ann": 6}), [])
        self.assertEqual(struck(history, {"ann": 6, "bob": 1}), [("ann", 2)])

    def test_rows(self):
        history = History(struck_deeds())
        self.assertEqual(row(history, whole(history)), ["a", "d"])
        self.assertEqual(row(history=history, view={"bob": 1, "ann": 6}), ["z", "a", "c", "d", "e"])
        self.assertEqual(shown(history=history, view={"ann": 9}), [("ann", 1), ("ann", 4), ("ann", 5)])
        self.assertEqual([row(history, {}), shown(history, {}), row(History({}), {})], [[], [], []])

    def test_a_row_with_all_struck(self):
        history = History({"ann": [X, ("strike", A, {"ann": 1})]})
        self.assertEqual([row(history, {"ann": 1}), row(history, {"ann": 2})], [["x"], []])

    def test_all_views(self):
        for history, deeds in many():
            for view in views_of(deeds):
                self.assertEqual(struck(history, view), told_struck(deeds, view))
                self.assertEqual(shown(history, view), told_shown(deeds, view))
                self.assertEqual(row(history, view), [deeds[hand][at][1] for hand, at in told_shown(deeds, view)])
                for thing in told_in(deeds, view):
                    wanted = [mark for mark in marks_in(view) if deeds[mark[0]][mark[1]][:2] == ("strike", thing)]
                    self.assertEqual(strikers(history, view, thing), wanted)


class Places(unittest.TestCase):
    """[46]"""

    def test_the_documents_example(self):
        talk = History(talk_deeds())
        self.assertEqual(place_shown(talk, whole(talk), ("ann", 1)), 3)

    def test_places_count_shown_things_alone(self):
        history = History(struck_deeds())
        places = [place_shown(history, whole(history), ("ann", at)) for at in range(6)]
        self.assertEqual(places, [0, 0, 1, 1, 1, 2])
        self.assertEqual(place_shown(history=history, view={"ann": 9}, thing=("ann", 5)), 2)
        self.assertEqual([thing_shown(history, whole(history), at) for at in range(2)], [("ann", 1), ("ann", 4)])
        self.assertEqual(thing_shown(history=history, view={"ann": 9}, place=2), ("ann", 5))

    def test_all_views(self):
        for history, deeds in many():
            for view in views_of(deeds):
                things = told_shown(deeds, view)
                for at, thing in enumerate(things):
                    self.assertEqual(thing_shown(history, view, at), thing)
                    self.assertEqual(place_shown(history, view, thing), at)
                for thing in told_in(deeds, view):
                    listed = told_in(deeds, view)
                    ahead = [other for other in listed[:listed.index(thing)] if other in things]
                    self.assertEqual(place_shown(history, view, thing), len(ahead))

    def test_what_is_no_place(self):
        history = History(struck_deeds())
        for view, many_shown in [(whole(history), 2), ({}, 0), ({"ann": 6}, 6)]:
            for place in [*NO_PLACES, many_shown, many_shown + 1, 60]:
                with self.assertRaises(InvalidPlace) as held:
                    thing_shown(history, view, place)
                self.assertIs(held.exception.value, place)


class AtPlaces(unittest.TestCase):
    """[47]: neighbours"""

    def test_the_documents_example(self):
        talk = History(talk_deeds())
        self.assertEqual(neighbours_at(talk, whole(talk), 3), (C, ("ann", 1)))

    def test_struck_things_stand_still(self):
        history = History(struck_deeds())
        self.assertEqual(neighbours_at(history, whole(history), 0), (None, A))
        self.assertEqual(neighbours_at(history, whole(history), 1), (("ann", 1), ("ann", 2)))
        self.assertEqual(neighbours_at(history=history, view=whole(history), place=2), (("ann", 4), ("ann", 5)))

    def test_the_ends(self):
        talk = History(talk_deeds())
        self.assertEqual(neighbours_at(talk, {"ann": 3}, 3), (("ann", 2), None))
        self.assertEqual(neighbours_at(talk, {}, 0), (None, None))
        self.assertEqual(neighbours_at(History({}), {}, 0), (None, None))
        gone = History({"ann": [X, ("strike", A, {"ann": 1})]})
        self.assertEqual(neighbours_at(gone, {"ann": 2}, 0), (None, A))

    def test_all_views(self):
        for history, deeds in many():
            for view in views_of(deeds):
                fenced = [None, *told_in(deeds, view), None]
                for place, left in enumerate([None, *told_shown(deeds, view)]):
                    self.assertEqual(neighbours_at(history, view, place), (left, fenced[fenced.index(left) + 1]))
                for place in [len(told_shown(deeds, view)) + 1, -1]:
                    with self.assertRaises(InvalidPlace):
                        neighbours_at(history, view, place)


class Hands(unittest.TestCase):
    """[47]: the views of hands, puts and strikes at places"""

    def test_the_documents_example(self):
        talk = History(talk_deeds())
        self.assertEqual([seen_by(talk, "bob"), seen_by(talk, "dan")], [{"ann": 2, "bob": 2}, {}])
        self.assertEqual(put_at(talk, "bob", 2, "yet").deeds("bob")[2],
                         ("put", "yet", B, ("ann", 1), {"ann": 2, "bob": 2}))
        self.assertEqual(strike_at(talk, "cy", 1).deeds("cy")[1], ("strike", C, {"ann": 2, "cy": 1}))
        self.assertEqual(put_at(talk, "dan", 0, "hm").deeds("dan"), [("put", "hm", None, None, {})])
        self.assertEqual(talk, History(talk_deeds()))

    def test_views_of_hands(self):
        for history, deeds in many():
            for hand in deeds:
                last = (hand, len(deeds[hand]) - 1)
                self.assertEqual(seen_by(history, hand), {**past_of(history, last), hand: last[1] + 1})
                self.assertEqual(list(seen_by(history=history, hand=hand)), sorted(seen_by(history, hand)))
            self.assertEqual(seen_by(history, "zoe"), {})

    def test_puts_and_strikes_show_in_the_rows_of_their_hands(self):
        for history, deeds in many():
            for hand in [*deeds, "zoe"]:
                seen = row(history, seen_by(history, hand))
                for place in range(len(seen) + 1):
                    more = put_at(history, hand, place, "new")
                    self.assertEqual(row(more, seen_by(more, hand)), [*seen[:place], "new", *seen[place:]])
                    self.assertEqual(more.size(), history.size() + 1)
                    if place < len(seen):
                        less = strike_at(history, hand, place)
                        self.assertEqual(row(less, seen_by(less, hand)), [*seen[:place], *seen[place + 1:]])
                        thing = shown(history, seen_by(history, hand))[place]
                        self.assertEqual(less.deeds(hand)[-1], ("strike", thing, seen_by(history, hand)))

    def test_a_put_goes_directly_behind_the_shown_thing_ahead(self):
        history = History(struck_deeds())
        more = put_at(history=history, hand="ann", place=1, word="n")
        self.assertEqual(more.deeds("ann")[10], ("put", "n", ("ann", 1), ("ann", 2), {"ann": 10}))
        self.assertEqual(row(more, whole(more)), ["a", "n", "d"])
        less = strike_at(history=history, hand="bob", place=0)
        self.assertEqual(less.deeds("bob")[1], ("strike", A, {"ann": 6, "bob": 1}))

    def test_the_first_deed_of_all(self):
        self.assertEqual(put_at(History({}), "ann", 0, "x"), History({"ann": [X]}))

    def test_typed_at_places_the_row_is_the_text(self):
        history = History({})
        for place, word in [(0, "b"), (1, "d"), (0, "a"), (2, "c"), (4, "e")]:
            history = put_at(history, "ann", place, word)
        self.assertEqual(row(history, whole(history)), ["a", "b", "c", "d", "e"])
        self.assertEqual(row(strike_at(history, "ann", 2), {"ann": 6}), ["a", "b", "d", "e"])


class Seen(unittest.TestCase):
    """[48]"""

    def test_the_documents_example(self):
        talk = History(talk_deeds())
        self.assertEqual(rows_seen(talk, "bob"), [["we", "go"], ["we", "not", "go"], ["we", "not"]])
        self.assertEqual(who_shows(talk, whole(talk)), {"ann": 2, "bob": 1, "cy": 1})

    def test_hands_without_deeds(self):
        self.assertEqual(rows_seen(history=History(talk_deeds()), hand="dan"), [[]])
        self.assertEqual(rows_seen(History({}), "ann"), [[]])

    def test_all_hands(self):
        for history, deeds in many():
            for hand in deeds:
                wanted = [row(history, deed[-1]) for deed in deeds[hand]]
                self.assertEqual(rows_seen(history, hand), [*wanted, row(history, seen_by(history, hand))])

    def test_who_shows(self):
        history = History(struck_deeds())
        self.assertEqual(who_shows(history=history, view=whole(history)), {"ann": 2})
        self.assertEqual([who_shows(history, {}), who_shows(History({}), {})], [{}, {}])
        back = History(back_deeds())
        self.assertEqual(list(who_shows(back, {"bob": 1, "ann": 3}).items()), [("ann", 3), ("bob", 1)])
        for history, deeds in many():
            for view in views_of(deeds):
                hands = [thing[0] for thing in told_shown(deeds, view)]
                wanted = [(hand, hands.count(hand)) for hand in sorted(set(hands))]
                self.assertEqual(list(who_shows(history, view).items()), wanted)


class Wrong(unittest.TestCase):
    """[2]"""

    def setUp(self):
        self.talk = History(talk_deeds())
        self.histories, self.views = (InvalidHistory, NO_HISTORIES), (InvalidView, NO_TALK_VIEWS)
        self.hands = (InvalidHand, NO_WORDS)

    def test_wrong_views(self):
        for call in [struck, shown, row, who_shows]:
            good = {"history": self.talk, "view": {"ann": 2}}
            assert_errors(self, call, good, {"history": self.histories, "view": self.views})

    def test_wrong_things(self):
        unseen = [("ann", 2), ("cy", 0), ("bob", 1)]
        for call in [strikers, place_shown]:
            good = {"history": self.talk, "view": {"bob": 2, "ann": 2}, "thing": ("ann", 1)}
            things = (InvalidMark, [*no_things(self.talk), *unseen])
            assert_errors(self, call, good, {"history": self.histories, "view": self.views, "thing": things})

    def test_wrong_places(self):
        for call, first in [(thing_shown, 3), (neighbours_at, 4)]:
            good = {"history": self.talk, "view": {"ann": 2, "bob": 1}, "place": 1}
            places = (InvalidPlace, [*NO_PLACES, first, 60])
            assert_errors(self, call, good, {"history": self.histories, "view": self.views, "place": places})

    def test_wrong_hands(self):
        for call in [seen_by, rows_seen]:
            good = {"history": self.talk, "hand": "bob"}
            assert_errors(self, call, good, {"history": self.histories, "hand": self.hands})

    def test_wrong_puts_and_strikes(self):
        good = {"history": self.talk, "hand": "bob", "place": 2, "word": "new"}
        wrong = {"history": self.histories, "hand": self.hands, "place": (InvalidPlace, [*NO_PLACES, 3, 60])}
        assert_errors(self, put_at, good, {**wrong, "word": (InvalidWord, NO_WORDS)})
        wrong["place"] = (InvalidPlace, [*NO_PLACES, 2, 3, 60])
        assert_errors(self, strike_at, {"history": self.talk, "hand": "bob", "place": 1}, wrong)

    def test_a_hand_without_deeds_shows_nothing(self):
        for place in [0, 1]:
            with self.assertRaises(InvalidPlace) as held:
                strike_at(self.talk, "dan", place)
            self.assertEqual(held.exception.value, place)
        with self.assertRaises(InvalidPlace):
            put_at(self.talk, "dan", 1, "new")


class Limits(unittest.TestCase):
    """[3]"""

    def test_the_largest_history_is_asked_at_once(self):
        history = History(largest_deeds())
        begun = time.perf_counter()
        for mark in sequence(history):
            view = least_view(history, [mark])
            self.assertEqual(sum(who_shows(history, view).values()), len(row(history, view)))
        for hand in history.hands():
            self.assertEqual(len(rows_seen(history, hand)), len(history.deeds(hand)) + 1)
            more = strike_at(put_at(history, hand, 3, "new"), hand, 3)
            self.assertEqual(row(more, seen_by(more, hand)), row(history, seen_by(history, hand)))
        self.assertLess(time.perf_counter() - begun, 5)


if __name__ == "__main__":
    unittest.main()
