import unittest

from samples import NO_MARKS, NO_VIEWS, NO_WORDS, both_deeds, four_deeds, nested, talk_deeds
from unmixed.errors import InvalidDeed, InvalidHand, InvalidHistory, InvalidMark, Refused, RowError
from unmixed.histories import History, first_wrong, grown, has_heard, is_mark, past_of

X = ("put", "x", None, None, {})
HUGE = 10 ** 29
NO_DEEDS = [
    None, True, 0, "put", [], ["put", "x", None, None, {}], {}, (), ("put",), ("put", "x", None, None),
    ("put", "x", None, None, {}, {}), ("take", "x", None, None, {}), (True, "x", None, None, {}),
    ("strike", "x", None, None, {}), ("strike", ("ann", 0)), ("strike", ("ann", 0), {}, {}),
    ("put", ("ann", 0), {}), ("Put", "x", None, None, {}), (History({}), "x", None, None, {}), History({}), RowError(X),
]


class Marks(unittest.TestCase):
    """[10]"""

    def test_marks(self):
        for mark in [("ann", 0), ("a", 1), ("abcdefgh", 7), ("z", HUGE)]:
            self.assertIs(is_mark(mark), True)
            self.assertIs(is_mark(value=mark), True)

    def test_no_marks(self):
        for value in [*NO_MARKS, nested(40), ("ann", nested(39)), (nested(39), 0)]:
            self.assertIs(is_mark(value), False, repr(value))


class Form(unittest.TestCase):
    """[10], [11] and "form" of [12]"""

    def assert_no_form(self, deeds):
        self.assertEqual(first_wrong(deeds), ("form", None), repr(deeds))
        with self.assertRaises(InvalidHistory) as held:
            History(deeds)
        self.assertIs(held.exception.value, deeds)

    def test_the_empty_history_has_the_form(self):
        self.assertIsNone(first_wrong({}))

    def test_no_dictionaries(self):
        for deeds in [None, True, 0, "", "ann", [], [("ann", [X])], (), ("ann",), History({}), RowError({}), nested(40)]:
            self.assert_no_form(deeds)

    def test_wrong_hands(self):
        for hand in [None, True, 0, 1, "", "Ann", "a b", "ann1", "abcdefghi", "ann\n", (), ("ann", 0), RowError("ann")]:
            self.assert_no_form({hand: [X]})
            self.assert_no_form({"ann": [X], hand: [X]})

    def test_wrong_lists(self):
        for listed in [[], (), (X,), {}, {0: X}, None, X, "x", [X, None], [[X]], nested(39)]:
            self.assert_no_form({"ann": listed})
            self.assert_no_form({"ann": [X], "bob": listed})

    def test_wrong_deeds(self):
        for deed in NO_DEEDS:
            self.assert_no_form({"ann": [deed]})

    def test_wrong_words(self):
        for word in NO_WORDS:
            self.assert_no_form({"ann": [("put", word, None, None, {})]})

    def test_wrong_neighbours_and_struck_things(self):
        for mark in NO_MARKS:
            self.assert_no_form({"ann": [X, ("strike", mark, {"ann": 1})]})
            if mark is not None:
                self.assert_no_form({"ann": [X, ("put", "y", mark, None, {"ann": 1})]})
                self.assert_no_form({"ann": [X, ("put", "y", None, mark, {"ann": 1})]})

    def test_wrong_pasts(self):
        for past in NO_VIEWS:
            self.assert_no_form({"ann": [("put", "x", None, None, past)]})
            self.assert_no_form({"ann": [X, ("strike", ("ann", 0), past)]})

    def test_form_comes_ahead_of_all_other_points(self):
        self.assert_no_form({"ann": [("put", "x", None, None, {"ann": 3})], "bob": []})

    def test_words_and_hands_of_one_and_of_eight_letters(self):
        self.assertIsNone(first_wrong({"a": [("put", "b", None, None, {})]}))
        self.assertIsNone(first_wrong({"abcdefgh": [("put", "stuvwxyz", None, None, {})]}))


class Own(unittest.TestCase):
    """"own" of [12]"""

    def test_a_deed_too_few_and_one_too_many(self):
        self.assertEqual(first_wrong({"ann": [("put", "x", None, None, {"ann": 1})]}), ("own", ("ann", 0)))
        self.assertEqual(first_wrong({"ann": [X, X]}), ("own", ("ann", 1)))
        self.assertEqual(first_wrong({"ann": [X, ("strike", ("ann", 0), {"ann": 2})]}), ("own", ("ann", 1)))
        self.assertEqual(first_wrong({"ann": [("put", "x", None, None, {"ann": HUGE})]}), ("own", ("ann", 0)))

    def test_the_least_mark(self):
        self.assertEqual(first_wrong({"cy": [X, X], "bob": [X, X, X], "ann": [X]}), ("own", ("bob", 1)))

    def test_it_comes_ahead_of_there(self):
        deeds = {"ann": [("put", "x", None, None, {"bob": 1})], "cy": [("put", "x", None, None, {"cy": 1})]}
        self.assertEqual(first_wrong(deeds), ("own", ("cy", 0)))


class There(unittest.TestCase):
    """"there" of [12]"""

    def test_deeds_that_are_not_there(self):
        for past in [{"bob": 2}, {"cy": 1}, {"bob": HUGE}, {"bob": 1, "cy": HUGE}]:
            deeds = {"ann": [("put", "y", None, None, past)], "bob": [X]}
            self.assertEqual(first_wrong(deeds), ("there", ("ann", 0)))

    def test_the_least_mark(self):
        late = ("put", "y", None, None, {"eve": 1})
        self.assertEqual(first_wrong({"cy": [late], "bob": [late], "ann": [X]}), ("there", ("bob", 0)))

    def test_it_comes_ahead_of_closed(self):
        deeds = {
            "ann": [("put", "y", ("bob", 0), None, {"bob": 1})],
            "bob": [("put", "x", ("cy", 0), None, {"cy": 1})],
            "cy": [("put", "w", None, None, {}), ("put", "v", None, None, {"cy": 1, "dan": 1})],
        }
        self.assertEqual(first_wrong(deeds), ("there", ("cy", 1)))


class Closed(unittest.TestCase):
    """"closed" of [12]"""

    def test_a_past_that_lacks_the_past_of_a_deed(self):
        deeds = {
            "ann": [X],
            "bob": [("put", "y", ("ann", 0), None, {"ann": 1})],
            "cy": [("put", "z", ("bob", 0), None, {"bob": 1})],
        }
        self.assertEqual(first_wrong(deeds), ("closed", ("cy", 0)))
        deeds["cy"] = [("put", "z", ("bob", 0), None, {"ann": 1, "bob": 1})]
        self.assertIsNone(first_wrong(deeds))

    def test_a_past_that_lacks_the_past_of_an_earlier_deed_of_a_hand(self):
        deeds = {
            "ann": [("put", "z", ("bob", 1), None, {"bob": 2})],
            "bob": [("put", "x", ("cy", 0), None, {"cy": 1}), ("put", "y", ("bob", 0), None, {"bob": 1})],
            "cy": [X],
        }
        self.assertEqual(first_wrong(deeds), ("closed", ("ann", 0)))
        del deeds["ann"]
        self.assertEqual(first_wrong(deeds), ("closed", ("bob", 1)))

    def test_deeds_in_one_anothers_pasts(self):
        deeds = {"ann": [("put", "x", None, None, {"bob": 1})], "bob": [("put", "y", None, None, {"ann": 1})]}
        self.assertEqual(first_wrong(deeds), ("closed", ("ann", 0)))

    def test_it_comes_ahead_of_beside_and_struck(self):
        deeds = {
            "ann": [("put", "y", ("bob", 0), None, {})],
            "bob": [X, ("strike", ("bob", 5), {"bob": 1})],
            "cy": [("strike", ("bob", 0), {"dan": 1})],
            "dan": [("put", "z", None, ("bob", 0), {"bob": 1})],
        }
        self.assertEqual(first_wrong(deeds), ("closed", ("cy", 0)))


class Beside(unittest.TestCase):
    """"beside" of [12]"""

    def seen(self, left, right):
        """What is wrong with a put between two neighbours of a row of three."""
        deeds = talk_deeds()
        return first_wrong({"ann": deeds["ann"], "dan": [("put", "new", left, right, {"ann": 3})]})

    def test_all_places_of_a_row(self):
        row = [None, ("ann", 0), ("ann", 1), ("ann", 2), None]
        for left, right in zip(row, row[1:]):
            self.assertIsNone(self.seen(left, right))

    def test_what_is_no_place_of_a_row(self):
        marks = [None, ("ann", 0), ("ann", 1), ("ann", 2), ("ann", 3), ("ann", HUGE), ("dan", 0), ("eve", 0)]
        row = [None, ("ann", 0), ("ann", 1), ("ann", 2), None]
        for left in marks:
            for right in marks:
                if (left, right) not in zip(row, row[1:]):
                    self.assertEqual(self.seen(left, right), ("beside", ("dan", 0)))

    def test_the_empty_row(self):
        self.assertIsNone(first_wrong({"ann": [X]}))
        for left, right in [(("ann", 0), None), (None, ("ann", 0)), (("ann", 0), ("ann", 0)), (("bob", 0), None)]:
            self.assertEqual(first_wrong({"ann": [("put", "x", left, right, {})]}), ("beside", ("ann", 0)))

    def test_things_that_were_not_seen_do_not_count(self):
        deeds = both_deeds()
        deeds["bob"][1] = ("put", "q", ("ann", 0), None, {"bob": 1})
        self.assertEqual(first_wrong(deeds), ("beside", ("bob", 1)))

    def test_a_struck_thing_is_a_neighbour_still(self):
        deeds = {"ann": [X, ("strike", ("ann", 0), {"ann": 1}), ("put", "y", ("ann", 0), None, {"ann": 2})]}
        self.assertIsNone(first_wrong(deeds))
        deeds["ann"][2] = ("put", "y", None, None, {"ann": 2})
        self.assertEqual(first_wrong(deeds), ("beside", ("ann", 2)))

    def test_a_strike_is_no_neighbour(self):
        deeds = {"ann": [X, ("strike", ("ann", 0), {"ann": 1}), ("put", "y", ("ann", 1), None, {"ann": 2})]}
        self.assertEqual(first_wrong(deeds), ("beside", ("ann", 2)))

    def test_the_documents_example(self):
        deeds = {"ann": [X, ("put", "y", None, None, {"ann": 1})]}
        self.assertEqual(first_wrong(deeds), ("beside", ("ann", 1)))
        self.assertEqual(first_wrong(deeds=deeds), ("beside", ("ann", 1)))


class Struck(unittest.TestCase):
    """"struck" of [12]"""

    def test_a_thing_of_the_past_perhaps_struck_already(self):
        deeds = talk_deeds()
        deeds["bob"].append(("strike", ("ann", 1), {"ann": 2, "bob": 2}))
        deeds["cy"].append(("strike", ("ann", 1), {"ann": 2, "bob": 3, "cy": 1}))
        self.assertIsNone(first_wrong(deeds))

    def test_what_is_no_thing_of_the_past(self):
        for thing in [("ann", 2), ("ann", 3), ("ann", HUGE), ("bob", 1), ("bob", 2), ("cy", 0), ("dan", 0)]:
            deeds = talk_deeds()
            deeds["bob"].append(("strike", thing, {"ann": 2, "bob": 2}))
            self.assertEqual(first_wrong(deeds), ("struck", ("bob", 2)))

    def test_nothing_can_be_struck_in_the_empty_row(self):
        self.assertEqual(first_wrong({"ann": [("strike", ("ann", 0), {})]}), ("struck", ("ann", 0)))


class BesideAndStruck(unittest.TestCase):
    """"at once" of [12]"""

    def test_the_least_mark_of_both(self):
        strike, put = ("strike", ("eve", 0), {}), ("put", "x", ("eve", 0), None, {})
        self.assertEqual(first_wrong({"bob": [put], "ann": [strike]}), ("struck", ("ann", 0)))
        self.assertEqual(first_wrong({"bob": [strike], "ann": [put]}), ("beside", ("ann", 0)))

    def test_deeds_with_a_wrong_one_in_their_past_are_passed_over(self):
        deeds = {
            "ann": [("put", "y", None, ("cy", 0), {"cy": 1})],
            "bob": [("strike", ("cy", 0), {"ann": 1, "cy": 1})],
            "cy": [("put", "x", ("eve", 0), None, {})],
        }
        self.assertEqual(first_wrong(deeds), ("beside", ("cy", 0)))
        deeds["dan"] = [("strike", ("eve", 0), {})]
        self.assertEqual(first_wrong(deeds), ("beside", ("cy", 0)))
        deeds["bob"] = [("strike", ("eve", 0), {})]
        self.assertEqual(first_wrong(deeds), ("struck", ("bob", 0)))


class Histories(unittest.TestCase):
    """[11]"""

    def test_the_documents_example(self):
        both = History(both_deeds())
        self.assertEqual(both.hands(), ["ann", "bob"])
        self.assertEqual(both.things(), [("ann", 0), ("ann", 1), ("bob", 0), ("bob", 1)])
        self.assertEqual(both.size(), 4)

    def test_the_empty_history(self):
        empty = History({})
        self.assertEqual([empty.hands(), empty.things(), empty.size()], [[], [], 0])
        self.assertEqual(empty, History({}))
        with self.assertRaises(InvalidHand) as held:
            empty.deeds("ann")
        self.assertEqual(held.exception.value, "ann")

    def test_hands_and_things_ascend(self):
        deeds = talk_deeds()
        talk = History({hand: deeds[hand] for hand in ["cy", "ann", "bob"]})
        self.assertEqual(talk.hands(), ["ann", "bob", "cy"])
        self.assertEqual(talk.things(), [("ann", 0), ("ann", 1), ("ann", 2), ("bob", 0), ("cy", 0)])

    def test_strikes_are_deeds_but_no_things(self):
        talk = History(talk_deeds())
        self.assertEqual(talk.size(), 6)
        self.assertNotIn(("bob", 1), talk.things())

    def test_deeds_with_ascending_pasts(self):
        deeds = talk_deeds()
        deeds["bob"][1] = ("strike", ("ann", 1), {"bob": 1, "ann": 2})
        talk = History(deeds=deeds)
        for hand in deeds:
            self.assertEqual(talk.deeds(hand), talk_deeds()[hand])
            self.assertEqual(talk.deeds(hand=hand), talk_deeds()[hand])
        self.assertEqual(list(talk.deeds("bob")[1][2]), ["ann", "bob"])

    def test_hands_without_deeds(self):
        both = History(both_deeds())
        for hand in [*NO_WORDS, "cy", "annn", nested(40)]:
            with self.assertRaises(InvalidHand) as held:
                both.deeds(hand)
            self.assertIs(held.exception.value, hand)

    def test_what_is_no_history(self):
        for deeds in [{"ann": [X, X]}, {"ann": [("strike", ("ann", 0), {})]}, {"ann": [X, ("put", "y", None, None, {})]}]:
            with self.assertRaises(InvalidHistory) as held:
                History(deeds)
            self.assertIs(held.exception.value, deeds)

    def test_equal_ones(self):
        deeds = talk_deeds()
        other = {hand: deeds[hand] for hand in ["cy", "bob", "ann"]}
        other["bob"][1] = ("strike", ("ann", 1), {"bob": 1, "ann": 2})
        self.assertTrue(History(talk_deeds()) == History(other))
        self.assertFalse(History(talk_deeds()) != History(other))

    def test_unlike_ones(self):
        talk = History(talk_deeds())
        for hand, deed in [
            ("cy", ("put", "can", ("ann", 0), ("ann", 1), {"ann": 2})),
            ("cy", ("put", "may", ("ann", 1), None, {"ann": 2})),
            ("cy", ("put", "may", ("ann", 0), None, {"ann": 1})),
            ("cy", ("strike", ("ann", 1), {"ann": 2})),
        ]:
            deeds = talk_deeds()
            deeds[hand] = [deed]
            self.assertTrue(History(deeds) != talk)
            self.assertFalse(talk == History(deeds))
        shorter = talk_deeds()
        del shorter["cy"]
        self.assertFalse(talk == History(shorter))
        self.assertFalse(History(shorter) == talk)
        self.assertFalse(talk == History({}))

    def test_never_equal_to_another_class(self):
        deeds = both_deeds()
        for value in [deeds, None, True, 0, "", [], (), {}, RowError(deeds), first_wrong]:
            self.assertFalse(History(deeds) == value)
            self.assertFalse(value == History(deeds))
            self.assertTrue(History({}) != value)


class Pasts(unittest.TestCase):
    """[13]"""

    def test_the_documents_example(self):
        both = History(both_deeds())
        self.assertEqual(past_of(both, ("bob", 1)), {"bob": 1})
        self.assertIs(has_heard(both, ("ann", 1), ("ann", 0)), True)

    def test_pasts(self):
        deeds = talk_deeds()
        deeds["bob"][1] = ("strike", ("ann", 1), {"bob": 1, "ann": 2})
        talk = History(deeds)
        self.assertEqual(list(past_of(talk, ("bob", 1)).items()), [("ann", 2), ("bob", 1)])
        self.assertEqual(past_of(history=talk, mark=("ann", 0)), {})

    def test_who_has_heard_what(self):
        talk = History(talk_deeds())
        marks = [(hand, at) for hand in talk.hands() for at in range(len(talk.deeds(hand)))]
        heard = [(one, other) for one in marks for other in marks if has_heard(talk, one, other)]
        self.assertEqual(heard, [
            (("ann", 1), ("ann", 0)), (("ann", 2), ("ann", 0)), (("ann", 2), ("ann", 1)),
            (("bob", 0), ("ann", 0)), (("bob", 0), ("ann", 1)),
            (("bob", 1), ("ann", 0)), (("bob", 1), ("ann", 1)), (("bob", 1), ("bob", 0)),
            (("cy", 0), ("ann", 0)), (("cy", 0), ("ann", 1)),
        ])
        self.assertIs(has_heard(history=talk, one=("ann", 0), other=("ann", 0)), False)

    def test_wrong_marks(self):
        both = History(both_deeds())
        for mark in [*NO_MARKS, ("ann", 2), ("bob", HUGE), ("cy", 0), nested(40)]:
            with self.assertRaises(InvalidMark) as held:
                past_of(both, mark)
            self.assertIs(held.exception.value, mark)
            with self.assertRaises(InvalidMark) as held:
                has_heard(both, mark, None)
            self.assertIs(held.exception.value, mark)
            with self.assertRaises(InvalidMark) as held:
                has_heard(both, ("ann", 0), mark)
            self.assertIs(held.exception.value, mark)

    def test_wrong_histories_come_first(self):
        for history in [None, True, 0, "ann", [], (), both_deeds(), {}, RowError(), nested(40), History]:
            for call in [lambda: past_of(history, None), lambda: has_heard(history, None, None),
                         lambda: grown(history, None, None)]:
                with self.assertRaises(InvalidHistory) as held:
                    call()
                self.assertIs(held.exception.value, history)


class Grown(unittest.TestCase):
    """[14]"""

    def test_a_deed_more(self):
        deeds = both_deeds()
        both = History(both_deeds())
        deeds["ann"].append(("put", "z", ("ann", 1), None, {"ann": 2}))
        self.assertEqual(grown(both, "ann", deeds["ann"][2]), History(deeds))
        deeds["bob"].append(("strike", ("ann", 2), {"ann": 3, "bob": 2}))
        self.assertEqual(grown(History({**deeds, "bob": both_deeds()["bob"]}), "bob", deeds["bob"][2]), History(deeds))
        self.assertEqual(both, History(both_deeds()))

    def test_a_deed_of_a_new_hand(self):
        deed = ("put", "n", ("ann", 1), None, {"ann": 2})
        new = grown(history=History(both_deeds()), hand="amy", deed=deed)
        self.assertEqual(new, History({"amy": [deed], **both_deeds()}))
        self.assertEqual(new.hands(), ["amy", "ann", "bob"])

    def test_the_first_deed_of_all(self):
        self.assertEqual(grown(History({}), "ann", X), History({"ann": [X]}))

    def test_any_history_comes_of_its_deeds(self):
        deeds = four_deeds()
        history = History({})
        for hand in deeds:
            for deed in deeds[hand]:
                history = grown(history, hand, deed)
        self.assertEqual(history, History(deeds))

    def test_wrong_hands(self):
        for hand in [*NO_WORDS, nested(40)]:
            with self.assertRaises(InvalidHand) as held:
                grown(History({}), hand, None)
            self.assertIs(held.exception.value, hand)

    def test_wrong_deeds(self):
        wrong = [("put", "x", None, None, past) for past in NO_VIEWS]
        wrong += [("strike", mark, {}) for mark in NO_MARKS]
        for deed in [*NO_DEEDS, *wrong, nested(40)]:
            with self.assertRaises(InvalidDeed) as held:
                grown(History({}), "ann", deed)
            self.assertIs(held.exception.value, deed)

    def test_refused_deeds(self):
        for hand, deed in [
            ("ann", X),
            ("ann", ("put", "z", ("ann", 1), None, {"ann": 3})),
            ("ann", ("put", "z", ("ann", 1), None, {"ann": 2, "cy": 1})),
            ("ann", ("put", "z", ("ann", 1), None, {"ann": 2, "bob": HUGE})),
            ("ann", ("put", "z", ("ann", 0), None, {"ann": 2})),
            ("ann", ("strike", ("bob", 0), {"ann": 2})),
            ("ann", ("strike", ("ann", HUGE), {"ann": 2})),
            ("cy", ("put", "z", None, None, {"cy": 1})),
            ("cy", ("strike", ("ann", 0), {})),
        ]:
            both = History(both_deeds())
            with self.assertRaises(Refused) as held:
                grown(both, hand, deed)
            self.assertIs(held.exception.value, deed)
            self.assertEqual(both, History(both_deeds()))

    def test_refused_unless_the_past_is_closed(self):
        talk = History(talk_deeds())
        deed = ("put", "z", ("bob", 0), None, {"bob": 1})
        with self.assertRaises(Refused) as held:
            grown(talk, "dan", deed)
        self.assertIs(held.exception.value, deed)


if __name__ == "__main__":
    unittest.main()
