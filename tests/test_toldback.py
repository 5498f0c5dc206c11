import random
import time
import unittest

from samples import (
    HANDS, NO_WORDS, back_deeds, both_deeds, four_deeds, many_typed, nested, random_deeds, small_deeds, talk_deeds,
    torn_deeds, wide_deeds,
)
from slow import neighbours_of, slow_first_wrong, told_order
from unmixed.errors import InvalidHistory, InvalidRows, Refused, RowError
from unmixed.histories import History
from unmixed.toldback import are_rows, first_fault, rows_of, told_back
from wrongs import NO_HISTORIES, assert_error, assert_errors

A, B, C, D, E = [(hand, 0) for hand in HANDS]
LETTERS = "abcdefghijklmnopqrstuvwxyz"


def saw_rows():
    """The document's example."""
    return {"ann": [("x", ["x"]), ("y", ["x", "y"])], "bob": [("p", ["p"]), ("q", ["p", "q"])]}


def mixed_rows():
    """The document's example of a row that no history shows."""
    return {"ann": [("x", ["x"]), ("y", ["x", "y"])], "bob": [("p", ["p"])], "cy": [("z", ["x", "p", "y", "z"])]}


def worded(deeds):
    """The same deeds with words that are all unlike."""
    marks = [(hand, at) for hand in sorted(deeds) for at in range(len(deeds[hand]))]
    names = {mark: "w" + LETTERS[at // 26] + LETTERS[at % 26] for at, mark in enumerate(marks)}
    return {hand: [("put", names[(hand, at)], *deed[2:]) for at, deed in enumerate(deeds[hand])] for hand in deeds}


def without_strikes(seed, many, size, hands=5):
    chance = random.Random(seed)
    found = [{}, both_deeds(), four_deeds(), back_deeds(), torn_deeds()]
    for _ in range(many):
        named = HANDS[:chance.randint(1, hands)]
        heard = chance.choice([0.05, 0.3, 0.6, 0.9])
        found.append(random_deeds(chance, named, chance.randint(1, size), heard=heard, strikes=0))
        found.append(wide_deeds(chance, named, chance.randint(1, size), strikes=0))
    return [worded(deeds) for deeds in found]


def told_rows(deeds):
    """The rows that hands saw, slowly."""
    neighbours = neighbours_of(deeds)
    found = {}
    for hand in deeds:
        found[hand] = []
        for at, deed in enumerate(deeds[hand]):
            seen = [thing for thing in neighbours if thing[1] < deed[4].get(thing[0], 0) or thing == (hand, at)]
            order = told_order({thing: neighbours[thing] for thing in neighbours if thing in seen})
            found[hand].append((deed[1], [deeds[owner][number][1] for owner, number in order]))
    return found


def only_deeds(rows):
    """The deeds that rows tell: nothing else may be put where each row has its own word."""
    owners = {word: hand for hand in rows for word, _ in rows[hand]}
    marks = {word: (hand, at) for hand in rows for at, (word, _) in enumerate(rows[hand])}
    found = {}
    for hand in rows:
        found[hand] = []
        for word, row in rows[hand]:
            others = [owners[other] for other in row if other != word]
            fenced = [None, *[marks[other] for other in row], None]
            at = row.index(word)
            past = {other: others.count(other) for other in others}
            found[hand].append(("put", word, fenced[at], fenced[at + 2], past))
    return found


def slow_fault(rows):
    """[64], word by word."""
    puts = {(hand, at): rows[hand][at] for hand in sorted(rows) for at in range(len(rows[hand]))}
    own = {word: row for word, row in puts.values()}
    for mark, (word, row) in puts.items():
        theirs = {hand: [other for other, _ in rows[hand] if other in row] for hand in rows}
        firsts = {hand: [other for other, _ in rows[hand]][:len(theirs[hand])] for hand in rows}
        mine = [other for other, _ in rows[mark[0]]][:mark[1] + 1]
        if theirs[mark[0]] != mine or theirs != firsts:
            return ("seen", mark)
    for mark, (word, row) in puts.items():
        for other in row:
            if any(x not in row for x in own[other]) or other != word and word in own[other]:
                return ("closed", mark)
    deeds = only_deeds(rows)
    marks = {word: mark for mark, (word, _) in puts.items()}

    def is_theirs(word):
        """Whether a row is that of its past with the put, all rows of its past being theirs."""
        row = own[word]
        if not all(is_theirs(other) for other in row if other != word):
            return None
        within = {marks[other]: None for other in sorted(row, key=lambda other: (len(own[other]), marks[other]))}
        neighbours = {mark: deeds[mark[0]][mark[1]][2:4] for mark in within if mark != marks[word]}
        order = [puts[mark][0] for mark in told_order(neighbours)]
        return order == [other for other in row if other != word]

    for mark, (word, _) in puts.items():
        if is_theirs(word) is False:
            return ("row", mark)
    return None


def bent(chance, rows):
    """The rows bent in one place; they stay rows that hands may have seen."""
    rows = {hand: [(word, list(row)) for word, row in rows[hand]] for hand in rows}
    hand = chance.choice(sorted(rows))
    word, row = chance.choice(rows[hand])
    words = [other for told in rows.values() for other, _ in told]
    way = chance.randrange(4)
    if way == 0 and len(row) > 1:
        one, other = chance.sample(range(len(row)), 2)
        row[one], row[other] = row[other], row[one]
    elif way == 1 and len(row) > 1:
        row.remove(chance.choice([other for other in row if other != word]))
    elif way == 2:
        more = [other for other in words if other not in row]
        if more:
            row.insert(chance.randint(0, len(row)), chance.choice(more))
    else:
        told = rows[hand]
        one, other = chance.randrange(len(told)), chance.randrange(len(told))
        told[one], told[other] = told[other], told[one]
    return rows


class Rows(unittest.TestCase):
    """[62]"""

    def test_ordinary_ones(self):
        for rows in [{}, saw_rows(), mixed_rows(), {"ann": [("x", ["x"]), ("y", ["y"])]}]:
            self.assertIs(are_rows(rows), True)
        self.assertIs(are_rows(value={"ann": [("x", ["y", "x"])], "bob": [("y", ["y"])]}), True)

    def test_any_object(self):
        for value in wrong_rows():
            self.assertIs(are_rows(value), False, repr(value))


def wrong_rows():
    """Objects that are no rows that hands saw."""
    found = [value for value in NO_WORDS if value != {}]
    found += [nested(40), [("x", ["x"])], {"ann": nested(39)}, RowError({}), {"ann": []}, {"Ann": [("x", ["x"])]}]
    found += [{None: [("x", ["x"])]}, {("ann",): [("x", ["x"])]}, {1: [("x", ["x"])]}, {"abcdefghi": [("x", ["x"])]}]
    found += [{"ann": value} for value in [None, (), (("x", ["x"]),), {"x": ["x"]}, "x", 1, ["x"], [None], [()]]]
    told = [
        ["x", ["x"]], ("x",), ("x", ["x"], []), ("X", ["X"]), ("", [""]), (None, [None]), (1, [1]), ("x", ("x",)),
        ("x", "x"), ("x", None), ("x", {"x": 1}), ("x", []), ("x", ["y"]), ("x", ["x", "x"]), ("x", ["x", "y"]),
        ("x", ["x", None]), ("x", ["x", ["x"]]), ("x", ["x", 1]), ("x", ["x", "X"]), (["x"], ["x"]), ("x", [["x"]]),
        ("x", ["x", True]),
    ]
    found += [{"ann": [value]} for value in told]
    # A word is put twice, by one hand or by two.
    found += [{"ann": [("x", ["x"]), ("x", ["x"])]}, {"ann": [("x", ["x"])], "bob": [("x", ["x"])]}]
    found += [{"ann": [("x", ["x"]), ("y", ["x", "y", "z"])]}, {"ann": [("x", ["x"])], "bob": []}]
    return found


class Back(unittest.TestCase):
    """[63]"""

    def test_the_documents_examples(self):
        both = History(both_deeds())
        self.assertEqual([told_back(saw_rows()), rows_of(both)], [both, saw_rows()])
        self.assertIsNone(told_back(mixed_rows()))
        found = told_back({"ann": [("x", ["x"])], "bob": [("p", ["x", "p"])]})
        self.assertEqual(found.deeds("bob"), [("put", "p", A, None, {"ann": 1})])

    def test_nothing(self):
        self.assertEqual([told_back(rows={}), rows_of(history=History({}))], [History({}), {}])

    def test_hands_in_any_sequence(self):
        rows = saw_rows()
        turned = {hand: rows[hand] for hand in ["bob", "ann"]}
        self.assertEqual(told_back(turned), told_back(rows))
        self.assertEqual(list(rows_of(told_back(turned))), ["ann", "bob"])

    def test_there_and_back(self):
        for deeds in without_strikes(63, 40, 10):
            history = History(deeds)
            rows = rows_of(history)
            self.assertEqual(rows, told_rows(deeds))
            self.assertEqual(list(rows), sorted(rows))
            self.assertEqual(told_back(rows), history)
            self.assertIsNone(first_fault(rows))

    def test_strikes_and_words_twice_are_refused(self):
        found = [
            talk_deeds(), {"ann": [("put", "x", None, None, {})], "bob": [("put", "x", None, None, {})]},
            {"ann": [("put", "x", None, None, {}), ("put", "x", A, None, {"ann": 1})]},
            {"ann": [("put", "x", None, None, {}), ("strike", A, {"ann": 1})]},
        ]
        for deeds in [*found, *many_typed(631, 10, 12), *small_deeds(631, 10, 8)]:
            words = [deed[1] for hand in deeds for deed in deeds[hand]]
            if any(deed[0] == "strike" for hand in deeds for deed in deeds[hand]) or len(set(words)) < len(words):
                history = History(deeds)
                assert_error(self, Refused, history, lambda: rows_of(history))
                assert_error(self, Refused, history, lambda: rows_of(history=history))

    def test_bent_rows_tell_no_history_or_another_one(self):
        chance = random.Random(632)
        many = {True: 0, False: 0}
        for deeds in without_strikes(632, 60, 7) * 3:
            if deeds:
                rows = bent(chance, told_rows(deeds))
                found, only = told_back(rows), only_deeds(rows)
                is_one = slow_first_wrong(only) is None and told_rows(only) == rows
                self.assertEqual(found, History(only) if is_one else None)
                self.assertEqual(first_fault(rows) is None, is_one)
                many[is_one] += 1
        self.assertTrue(min(many.values()) > 20)


class Faults(unittest.TestCase):
    """[64]"""

    def test_the_documents_examples(self):
        self.assertIsNone(first_fault(saw_rows()))
        self.assertEqual(first_fault({"ann": [("x", ["x"]), ("y", ["y"])]}), ("seen", ("ann", 1)))
        self.assertEqual(first_fault({"ann": [("x", ["x", "p"])], "bob": [("p", ["x", "p"])]}), ("closed", A))
        self.assertEqual(first_fault(mixed_rows()), ("row", C))

    def test_seen(self):
        # A later word of its own, and one of another hand ahead of that one's first one.
        self.assertEqual(first_fault({"ann": [("x", ["x", "y"]), ("y", ["x", "y"])]}), ("seen", A))
        rows = {"ann": [("x", ["x"]), ("y", ["x", "y"])], "bob": [("p", ["y", "p"])]}
        self.assertEqual(first_fault(rows=rows), ("seen", B))
        self.assertEqual(first_fault({}), None)

    def test_closed(self):
        rows = {"ann": [("x", ["x"])], "bob": [("p", ["x", "p"])], "cy": [("z", ["p", "z"])]}
        self.assertEqual(first_fault(rows), ("closed", C))
        # An elder word of its own has seen what the younger one has not.
        rows = {"ann": [("x", ["x"])], "bob": [("p", ["x", "p"]), ("q", ["p", "q"])]}
        self.assertEqual(first_fault(rows), ("closed", ("bob", 1)))

    def test_row(self):
        rows = {"ann": [("x", ["x"]), ("y", ["x", "y"]), ("z", ["y", "x", "z"])]}
        self.assertEqual(first_fault(rows), ("row", ("ann", 2)))
        # What has such a one in its row is passed over, though its own mark is less.
        rows = {"bob": rows["ann"], "ann": [("w", ["y", "x", "z", "w"])]}
        self.assertEqual(first_fault(rows), ("row", ("bob", 2)))
        rows = {"ann": [("x", ["x"])], "bob": [("p", ["p"])], "cy": [("z", ["p", "x", "z"])]}
        self.assertEqual(first_fault(rows), ("row", C))

    def test_first_seen_then_closed_then_row(self):
        seen = {"zoe": [("a", ["a"]), ("b", ["b"])]}
        closed = {"tim": [("c", ["c", "d"])], "uma": [("d", ["c", "d"])]}
        row = {"ann": [("e", ["e"]), ("f", ["e", "f"]), ("g", ["f", "e", "g"])]}
        self.assertEqual(first_fault({**row, **closed, **seen}), ("seen", ("zoe", 1)))
        self.assertEqual(first_fault({**row, **closed}), ("closed", ("tim", 0)))
        self.assertEqual(first_fault(row), ("row", ("ann", 2)))

    def test_bent_rows(self):
        chance = random.Random(64)
        found = set()
        for deeds in without_strikes(64, 60, 7) * 4:
            if deeds:
                rows = told_rows(deeds)
                for _ in range(chance.choice([1, 1, 2])):
                    rows = bent(chance, rows)
                fault = first_fault(rows)
                self.assertEqual(fault, slow_fault(rows))
                found.add(fault and fault[0])
        self.assertEqual(found, {None, "seen", "closed", "row"})


class Wrong(unittest.TestCase):
    """[2]"""

    def test_wrong_arguments(self):
        for call in [told_back, first_fault]:
            assert_errors(self, call, {"rows": saw_rows()}, {"rows": (InvalidRows, wrong_rows())})
        assert_errors(self, rows_of, {"history": History({})}, {"history": (InvalidHistory, NO_HISTORIES)})

    def test_nothing_is_shared(self):
        rows = saw_rows()
        found = told_back(rows)
        rows["ann"][1][1].clear()
        rows["bob"].clear()
        self.assertEqual(found, History(both_deeds()))
        told = rows_of(found)
        told["ann"][0][1].append("w")
        told["bob"].clear()
        self.assertEqual(rows_of(found), saw_rows())
        kept = saw_rows()
        first_fault(kept)
        self.assertEqual(kept, saw_rows())


class Limits(unittest.TestCase):
    """[3]"""

    def test_the_largest_history_is_told_back_at_once(self):
        begun = time.perf_counter()
        for deeds in [worded(random_deeds(random.Random(65), HANDS, 24, heard=0.9, strikes=0)) for _ in range(3)]:
            history = History(deeds)
            self.assertEqual(told_back(rows_of(history)), history)
        self.assertLess(time.perf_counter() - begun, 5)


if __name__ == "__main__":
    unittest.main()
