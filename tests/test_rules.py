import importlib
import inspect
import time
import unittest

from asking import copy_of, spoil
from samples import both_deeds, four_deeds, largest_deeds, nested, talk_deeds
from unmixed.between import between, came_between, parted_since, why_between
from unmixed.brothers import brothers_behind, led_by, roots, stretch, told_ahead
from unmixed.devices import Net
from unmixed.errors import InvalidMark
from unmixed.firsts import all_first, brother_orders, choice_of, first_by, is_first, many_first
from unmixed.folding import folded, folded_view, is_foldable, is_settled
from unmixed.histories import History, first_wrong, grown, has_heard, is_mark, past_of
from unmixed.lots import (
    all_by_lots, asked_in_lots, dealing_of, keeps_three, list_by, lot_of, lots, many_by_lots, many_set,
)
from unmixed.mirrors import (
    any_both, both_brothers, both_orders, is_mirror, many_both, own_bars, torn_at, torn_views,
)
from unmixed.orders import decided, is_order, order, order_in, reasons
from unmixed.runs import are_apart, backward_runs, forward_runs, mixed_in, pieces_by_hands
from unmixed.shown import (
    neighbours_at, place_shown, put_at, row, rows_seen, seen_by, shown, strike_at, strikers, struck, thing_shown,
    who_shows,
)
from unmixed.versions import by_whom, changes, kept, known_since, lacks, rewritten, words_of
from unmixed.views import (
    has_view, heads, is_sequence, is_view, joined, least_view, part, sequence, shared, whole,
)

INTERFACE = {
    "unmixed.histories": {
        "is_mark": "(value)", "first_wrong": "(deeds)", "past_of": "(history, mark)",
        "has_heard": "(history, one, other)", "grown": "(history, hand, deed)", "History": "(deeds)",
    },
    "unmixed.views": {
        "is_view": "(history, value)", "whole": "(history)", "joined": "(history, one, other)",
        "shared": "(history, one, other)", "has_view": "(history, one, other)", "heads": "(history, view)",
        "least_view": "(history, marks)", "part": "(history, view)", "sequence": "(history)",
        "is_sequence": "(history, value)",
    },
    "unmixed.brothers": {
        "left_of": "(history, thing)", "right_of": "(history, thing)", "hangs_on": "(history, one, other)",
        "brothers_behind": "(history, left)", "stretch": "(history, thing)", "is_ahead": "(history, one, other)",
        "led_by": "(history, thing)", "roots": "(history, left)", "told_ahead": "(history, left)",
    },
    "unmixed.orders": {
        "order": "(history)", "order_in": "(history, view)", "is_order": "(history, value)",
        "reasons": "(history, value)", "decided": "(history, one, other)", "place_of": "(history, thing)",
    },
    "unmixed.firsts": {
        "is_first": "(history, value)", "brother_orders": "(history, left)", "first_by": "(history, choice)",
        "choice_of": "(history, things)", "many_first": "(history)", "all_first": "(history)",
    },
    "unmixed.between": {
        "between": "(history, one, other)", "came_between": "(history, thing)", "why_between": "(history, thing)",
        "parted_since": "(history, view)",
    },
    "unmixed.runs": {
        "forward_runs": "(history)", "backward_runs": "(history)", "mixed_in": "(history, run)",
        "are_apart": "(history, one, other)", "pieces_by_hands": "(history)",
    },
    "unmixed.mirrors": {
        "is_mirror": "(history, value)", "own_bars": "(history)", "both_brothers": "(history, left)",
        "both_orders": "(history)", "many_both": "(history)", "any_both": "(history)", "is_torn": "(history)",
        "torn_at": "(history)", "is_kept_both": "(history)", "torn_views": "(history)",
    },
    "unmixed.shown": {
        "struck": "(history, view)", "strikers": "(history, view, thing)", "shown": "(history, view)",
        "row": "(history, view)", "place_shown": "(history, view, thing)", "thing_shown": "(history, view, place)",
        "neighbours_at": "(history, view, place)", "seen_by": "(history, hand)",
        "put_at": "(history, hand, place, word)", "strike_at": "(history, hand, place)",
        "rows_seen": "(history, hand)", "who_shows": "(history, view)",
    },
    "unmixed.versions": {
        "kept": "(history, one, other)", "changes": "(history, one, other)", "rewritten": "(words, steps)",
        "by_whom": "(history, one)", "known_since": "(history, thing)", "lacks": "(history, one, other)",
        "words_of": "(history, one, hand)",
    },
    "unmixed.lots": {
        "lots": "(history)", "lot_of": "(history, thing)", "keeps_three": "(history, value)",
        "list_by": "(history, dealing)", "dealing_of": "(history, things)", "many_by_lots": "(history)",
        "all_by_lots": "(history)", "asked_in_lots": "(history)", "many_set": "(history)",
    },
    "unmixed.folding": {
        "is_settled": "(history, view)", "is_foldable": "(history, view)", "folded": "(history, view)",
        "folded_view": "(history, view, later)",
    },
    "unmixed.toldback": {
        "are_rows": "(value)", "told_back": "(rows)", "rows_of": "(history)", "first_fault": "(rows)",
    },
    "unmixed.devices": {"Net": "()", "replayed": "(net, log)"},
    "unmixed.scripts": {"play": "(net, script)", "end_of": "(script)", "shortened": "(script)"},
    "unmixed.papers": {
        "history_text": "(history)", "read_history": "(text)", "script_text": "(script)", "read_script": "(text)",
    },
}
METHODS = {
    History: {"hands": "(self)", "deeds": "(self, hand)", "things": "(self)", "size": "(self)"},
    Net: {
        "add": "(self, hand)", "hands": "(self)", "put": "(self, hand, place, word)", "strike": "(self, hand, place)",
        "send": "(self, one, other)", "arrive": "(self, number)", "letters": "(self)", "tell": "(self, one, other)",
        "tell_all": "(self)", "row": "(self, hand)", "view": "(self, hand)", "marks": "(self, hand)",
        "history": "(self)", "lacks": "(self, one, other)", "show_alike": "(self)", "all_heard": "(self)",
        "trial": "(self)", "attempt": "(self, action)", "copy": "(self)", "undo": "(self)", "redo": "(self)",
        "log": "(self)",
    },
}


class Interface(unittest.TestCase):
    """[1]"""

    def test_names_arguments_and_files(self):
        for module, names in INTERFACE.items():
            for name, arguments in names.items():
                found = getattr(importlib.import_module(module), name)
                self.assertEqual(str(inspect.signature(found)), arguments, name)
                self.assertEqual(found.__module__, module, name)

    def test_methods_stand_in_the_class_itself(self):
        for owner, methods in METHODS.items():
            for name, arguments in methods.items():
                self.assertEqual(str(inspect.signature(vars(owner)[name])), arguments, name)
        self.assertIn("__eq__", vars(History))


class TrueIsNotOne(unittest.TestCase):
    """[2]"""

    def test_marks_views_and_deeds(self):
        both = History(both_deeds())
        self.assertIs(is_mark(("ann", True)), False)
        self.assertIs(is_view(both, {"ann": True}), False)
        self.assertIs(is_sequence(both, [("ann", 0), ("ann", True), ("bob", 0), ("bob", True)]), False)
        for mark in [("ann", True), ("ann", False)]:
            for call in [lambda: past_of(both, mark), lambda: least_view(both, [mark])]:
                with self.assertRaises(InvalidMark) as held:
                    call()
                self.assertIs(held.exception.value, mark)
        deeds = both_deeds()
        deeds["ann"][1] = ("put", "y", ("ann", False), None, {"ann": 1})
        self.assertEqual(first_wrong(deeds), ("form", None))
        deeds["ann"][1] = ("put", "y", ("ann", 0), None, {"ann": True})
        self.assertEqual(first_wrong(deeds), ("form", None))


class NothingChanges(unittest.TestCase):
    """[2]"""

    def test_arguments_are_left_as_they_are(self):
        deeds = talk_deeds()
        deeds["bob"][1] = ("strike", ("ann", 1), {"bob": 1, "ann": 2})
        talk = History(deeds)
        first_wrong(deeds)
        one, other, marks = {"cy": 1, "ann": 2}, {"bob": 1, "ann": 3}, [("cy", 0), ("ann", 2)]
        deed = ("put", "z", ("cy", 0), ("ann", 1), {"cy": 1, "ann": 2})
        listed = sequence(talk)
        for call in [joined, shared, has_view]:
            call(talk, one, other)
        for call in [heads, part, is_view]:
            call(talk, one)
        least_view(talk, marks)
        grown(talk, "dan", deed)
        is_sequence(talk, listed)
        self.assertEqual(deeds, talk_deeds())
        self.assertEqual(list(deeds["bob"][1][2]), ["bob", "ann"])
        self.assertEqual([list(one.items()), list(other.items())], [[("cy", 1), ("ann", 2)], [("bob", 1), ("ann", 3)]])
        self.assertEqual([marks, listed], [[("cy", 0), ("ann", 2)], sequence(talk)])
        self.assertEqual(list(deed[4]), ["cy", "ann"])
        self.assertEqual(talk, History(talk_deeds()))

    def test_what_was_passed_may_be_changed(self):
        deeds = talk_deeds()
        talk = History(deeds)
        deeds["ann"][2][4]["ann"] = 9
        deeds["bob"].pop()
        del deeds["cy"]
        self.assertEqual(talk, History(talk_deeds()))
        deed = ("put", "z", ("cy", 0), ("ann", 1), {"ann": 2, "cy": 1})
        more = grown(talk, "dan", deed)
        deed[4].clear()
        self.assertEqual(past_of(more, ("dan", 0)), {"ann": 2, "cy": 1})

    def test_what_was_returned_may_be_changed(self):
        talk = History(talk_deeds())
        view = {"ann": 3}
        calls = [
            talk.hands, talk.things, lambda: talk.deeds("ann"), lambda: past_of(talk, ("bob", 1)), lambda: whole(talk),
            lambda: joined(talk, view, view), lambda: shared(talk, view, view), lambda: heads(talk, view),
            lambda: least_view(talk, [("cy", 0)]), lambda: sequence(talk), lambda: part(talk, view).deeds("ann"),
        ]
        for call in calls:
            told = repr(call())
            found = call()
            self.assertIsNot(found, call())
            if isinstance(found, list) and isinstance(found[0], tuple) and isinstance(found[0][-1], dict):
                for deed in found:
                    deed[-1]["zoe"] = 5
            found.clear()
            self.assertEqual(repr(call()), told)
            self.assertEqual(view, {"ann": 3})
        self.assertEqual(talk, History(talk_deeds()))

    def test_views_that_are_returned_are_new_ones(self):
        talk = History(talk_deeds())
        view = {"ann": 2}
        for call in [joined, shared]:
            found = call(talk, view, view)
            found["ann"] = 1
            self.assertEqual(view, {"ann": 2})

    def test_histories_share_nothing(self):
        talk = History(talk_deeds())
        again = part(talk, whole(talk))
        more = grown(talk, "dan", ("put", "z", None, ("ann", 0), {"ann": 1}))
        for history in [again, more]:
            history.deeds("bob")[1][2].clear()
            history.deeds("bob").clear()
        self.assertEqual(talk, again)
        self.assertEqual(part(more, whole(talk)), talk)

    def test_equal_calls_return_equal_results(self):
        deeds = four_deeds()
        one, other = History(deeds), History({hand: deeds[hand] for hand in reversed(list(deeds))})
        for call in [History.hands, History.things, History.size, whole, sequence]:
            self.assertEqual(repr(call(one)), repr(call(other)))
        for mark in sequence(one):
            self.assertEqual(repr(least_view(one, [mark])), repr(least_view(other, [mark])))
            self.assertEqual(repr(past_of(one, mark)), repr(past_of(other, mark)))


A, B, C = ("ann", 0), ("bob", 0), ("cy", 0)
TALK_ORDER = [A, B, C, ("ann", 1), ("ann", 2)]
TALK_VIEW = {"bob": 2, "ann": 3}
TALK_CHOICE = {("ann", 1): [("ann", 2)], A: [C, B, ("ann", 1)], None: [A]}
# Calls of the history "talk" with what they are passed besides; each returns lists, dictionaries or tuples.
TALK_CALLS = [
    (brothers_behind, [A]), (brothers_behind, [None]), (stretch, [A]), (led_by, [("ann", 1)]), (roots, [A]),
    (told_ahead, [A]), (order, []), (order_in, [{"bob": 1, "ann": 2}]), (reasons, [TALK_ORDER[::-1]]),
    (decided, [B, C]), (brother_orders, [A]), (brother_orders, [B]), (first_by, [TALK_CHOICE]),
    (choice_of, [TALK_ORDER]), (all_first, []),
    (between, [A, ("ann", 2)]), (came_between, [("ann", 1)]), (why_between, [("ann", 1)]),
    (parted_since, [{"bob": 1, "ann": 2}]), (forward_runs, []), (backward_runs, []), (mixed_in, [[("ann", 1), A]]),
    (pieces_by_hands, []), (own_bars, []), (both_brothers, [A]), (both_brothers, [B]), (both_orders, []),
    (any_both, []), (torn_at, []), (torn_views, []), (struck, [TALK_VIEW]), (strikers, [TALK_VIEW, ("ann", 1)]),
    (shown, [TALK_VIEW]), (row, [TALK_VIEW]), (neighbours_at, [TALK_VIEW, 1]), (seen_by, ["bob"]), (seen_by, ["dan"]),
    (rows_seen, ["bob"]), (rows_seen, ["dan"]), (who_shows, [TALK_VIEW]), (kept, [{"ann": 3}, TALK_VIEW]),
    (changes, [{"ann": 3}, {"bob": 1, "ann": 2}]), (by_whom, [TALK_VIEW]), (known_since, [("ann", 1)]),
    (lacks, [{"ann": 2}, TALK_VIEW]), (words_of, [TALK_VIEW, "ann"]), (lots, []), (lot_of, [B]),
    (list_by, [[[C, B]]]), (dealing_of, [TALK_ORDER]), (all_by_lots, []), (asked_in_lots, []),
    (folded_view, [{"ann": 2}, TALK_VIEW]),
]
# Calls that return no lists and no dictionaries.
TALK_ASKS = [
    (is_order, [TALK_ORDER]), (is_first, [TALK_ORDER]), (is_mirror, [TALK_ORDER]), (are_apart, [[B, A], [C]]),
    (place_shown, [TALK_VIEW, ("ann", 1)]), (thing_shown, [TALK_VIEW, 1]), (many_first, []), (many_both, []),
    (keeps_three, [TALK_ORDER]), (many_by_lots, []), (many_set, []), (is_settled, [{"ann": 2}]),
    (is_foldable, [{"ann": 2}]),
]


class NothingIsShared(unittest.TestCase):
    """[2]"""

    def test_what_was_returned_may_be_changed(self):
        talk = History(talk_deeds())
        told = [repr(call(talk, *copy_of(passed))) for call, passed in TALK_CALLS]
        for call, passed in TALK_CALLS:
            spoil(call(talk, *copy_of(passed)))
        self.assertEqual([repr(call(talk, *copy_of(passed))) for call, passed in TALK_CALLS], told)
        self.assertEqual(talk, History(talk_deeds()))

    def test_what_was_passed_stays_and_may_be_changed(self):
        talk = History(talk_deeds())
        for call, passed in [*TALK_CALLS, *TALK_ASKS]:
            given = copy_of(passed)
            found = call(talk, *given)
            self.assertEqual(repr(given), repr(passed), call)
            told = repr(found)
            spoil(given)
            self.assertEqual(repr(found), told, call)

    def test_what_was_returned_is_no_part_of_what_was_passed(self):
        talk = History(talk_deeds())
        for call, passed in TALK_CALLS:
            given = copy_of(passed)
            spoil(call(talk, *given))
            self.assertEqual(repr(given), repr(passed), call)

    def test_equal_histories_are_told_alike(self):
        deeds = talk_deeds()
        other = History({hand: deeds[hand] for hand in ["cy", "bob", "ann"]})
        for call, passed in [*TALK_CALLS, *TALK_ASKS]:
            self.assertEqual(repr(call(other, *passed)), repr(call(History(deeds), *passed)), call)

    def test_rows_rewritten_share_nothing(self):
        words, steps = ["we", "go"], [(1, ["go"], ["may", "not"])]
        found = rewritten(words, steps)
        spoil(steps)
        words.clear()
        self.assertEqual(found, ["we", "may", "not"])
        words, steps = ["we", "go"], [(1, ["go"], ["may", "not"])]
        spoil(rewritten(words, steps))
        self.assertEqual([words, steps], [["we", "go"], [(1, ["go"], ["may", "not"])]])

    def test_histories_made_of_others_share_nothing(self):
        talk = History(talk_deeds())
        for history in [put_at(talk, "bob", 1, "yet"), strike_at(talk, "bob", 1), folded(talk, {"ann": 2})]:
            told = repr([history.deeds(hand) for hand in history.hands()])
            spoil(history.deeds("bob"))
            spoil(seen_by(talk, "bob"))
            self.assertEqual(repr([history.deeds(hand) for hand in history.hands()]), told)
        self.assertEqual(talk, History(talk_deeds()))


class Limits(unittest.TestCase):
    """[3]"""

    def test_the_largest_history_is_made_and_asked_at_once(self):
        deeds = largest_deeds()
        begun = time.perf_counter()
        history = History(deeds)
        self.assertEqual([history.size(), len(history.things()), len(history.hands())], [30, 24, 5])
        marks = sequence(history)
        views = [least_view(history, [mark]) for mark in marks]
        for mark, view in zip(marks, views):
            self.assertEqual(heads(history, view), [mark])
            self.assertTrue(has_heard(history, mark, marks[0]) or mark == marks[0] or past_of(history, mark) == {})
            self.assertEqual(joined(history, view, whole(history)), whole(history))
            self.assertEqual(part(history, view).size(), sum(view.values()))
        self.assertIs(is_sequence(history, marks), True)
        self.assertLess(time.perf_counter() - begun, 5)

    def test_somewhat_larger_ones_raise_no_error(self):
        forward = [("put", "x", ("ann", at - 1) if at else None, None, {"ann": at} if at else {}) for at in range(60)]
        backward = [("put", "x", None, ("ann", at - 1) if at else None, {"ann": at} if at else {}) for at in range(60)]
        for deeds in [forward, backward]:
            self.assertEqual(History({"ann": deeds}).size(), 60)
        hands = ["ann", "bob", "cy", "dan", "eve", "fay", "gus"]
        self.assertEqual(History({hand: [("put", "x", None, None, {})] for hand in hands}).hands(), hands)

    def test_counts_of_thirty_digits(self):
        huge = 10 ** 30 - 1
        both = History(both_deeds())
        self.assertIs(is_mark(("ann", huge)), True)
        self.assertIs(is_view(both, {"ann": huge, "bob": huge}), False)
        self.assertEqual(first_wrong({"ann": [("put", "x", None, None, {"bob": huge})]}), ("there", ("ann", 0)))
        self.assertEqual(first_wrong({"ann": [("strike", ("ann", huge), {})]}), ("struck", ("ann", 0)))

    def test_arguments_nested_forty_deep(self):
        deep = nested(39)
        self.assertIs(is_mark([deep]), False)
        self.assertIs(is_view(History({}), {"ann": deep}), False)
        self.assertEqual(first_wrong({"ann": deep}), ("form", None))


if __name__ == "__main__":
    unittest.main()
