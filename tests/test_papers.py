import random
import time
import unittest

from plays import day_script, random_script, wrong_scripts
from samples import (
    HANDS, back_deeds, both_deeds, chain_deeds, largest_deeds, many_typed, nested, small_deeds, talk_deeds,
)
from unmixed.devices import Net
from unmixed.errors import InvalidHistory, InvalidScript, InvalidText, RowError
from unmixed.histories import History
from unmixed.papers import history_text, read_history, read_script, script_text
from wrongs import NO_HISTORIES, assert_error, assert_errors

BOTH_TEXT = "ann:\n  put x - -\n  put y ann/0 - ann=1\nbob:\n  put p - -\n  put q bob/0 - bob=1"
NO_TEXTS = [
    None, True, False, 0, 1, [], [""], (), ("",), {}, {"": ""}, nested(40), RowError(""), History({}), Net(),
    History(both_deeds()), [BOTH_TEXT],
]
SIGNS = [" ", "  ", "\n", "\t", "-", "/", "=", ":", "0", "1", "7", "a", "x", "A", ".", "+", "_", "~"]


def bent_texts(chance, text, many):
    """The text with a sign, a blank or a line more, less, elsewhere or another one."""
    for _ in range(many):
        at, way = chance.randint(0, len(text)), chance.randrange(6)
        lines = text.split("\n")
        line = chance.randrange(len(lines))
        if way == 0:
            yield text[:at] + chance.choice(SIGNS) + text[at:]
        elif way == 1:
            yield text[:at] + text[at + 1:]
        elif way == 2:
            yield text[:at] + chance.choice(SIGNS) + text[at + 1:]
        elif way == 3:
            yield "\n".join(lines[:line] + lines[line + 1:])
        elif way == 4:
            yield "\n".join([*lines[:line], lines[line], *lines[line:]])
        else:
            other = chance.randrange(len(lines))
            lines[line], lines[other] = lines[other], lines[line]
            yield "\n".join(lines)


def told_text(deeds):
    """[74], word by word."""
    def mark(value):
        return "-" if value is None else value[0] + "/" + str(value[1])
    lines = []
    for hand in sorted(deeds):
        lines.append(hand + ":")
        for deed in deeds[hand]:
            parts = [deed[0]]
            parts += [deed[1], mark(deed[2]), mark(deed[3])] if deed[0] == "put" else [mark(deed[1])]
            parts += [other + "=" + str(deed[-1][other]) for other in sorted(deed[-1])]
            lines.append("  " + " ".join(parts))
    return "\n".join(lines)


def told_script(script, ahead=""):
    """[75], word by word."""
    lines = []
    for word, *things in script:
        if word == "try":
            lines += [ahead + "try", *told_script(things[0], ahead + "  "), ahead + "end"]
        else:
            lines.append(ahead + " ".join([word, *map(str, things)]))
    return lines


class Histories(unittest.TestCase):
    """[74]"""

    def test_the_documents_example(self):
        both = History(both_deeds())
        self.assertEqual(history_text(both), BOTH_TEXT)
        self.assertEqual([read_history(BOTH_TEXT), read_history("")], [both, History({})])
        self.assertEqual(history_text(History({})), "")

    def test_strikes_right_neighbours_and_several_parts(self):
        text = history_text(History(talk_deeds()))
        self.assertEqual(text.split("\n"), [
            "ann:", "  put we - -", "  put go ann/0 - ann=1", "  put up ann/1 - ann=2",
            "bob:", "  put not ann/0 ann/1 ann=2", "  strike ann/1 ann=2 bob=1",
            "cy:", "  put may ann/0 ann/1 ann=2",
        ])

    def test_there_and_back(self):
        for deeds in [{}, both_deeds(), back_deeds(), chain_deeds(), *many_typed(74, 20, 20), *small_deeds(74, 30, 12)]:
            history = History(deeds)
            text = history_text(history=history)
            self.assertEqual(text, told_text(deeds))
            found = read_history(text=text)
            self.assertEqual(found, history)
            self.assertEqual([list(deed[-1]) for deed in found.deeds(found.hands()[0])] if deeds else [],
                             [sorted(deed[-1]) for deed in deeds[min(deeds)]] if deeds else [])

    def test_just_these_texts(self):
        wrong = [
            "\n", " ", "\t", "ann", "ann:", "ann:\n", ":", ":\n  put x - -", "  put x - -", "put x - -",
            "ann:\nput x - -", "ann:\n put x - -", "ann:\n   put x - -", "ann:\n\tput x - -", "ann:\n  put  x - -",
            "ann:\n  put x -  -", "ann:\n  put x - - ", "ann: \n  put x - -", " ann:\n  put x - -",
            "ann:\n  put x - -\n", "\nann:\n  put x - -", "ann:\n\n  put x - -", "ann:\n  put x - -\n\n",
            "ann:\n  put x -", "ann:\n  put x", "ann:\n  put", "ann:\n  ", "ann:\n  put x - - -",
            "ann:\n  put x - - ann=0", "ann:\n  put x - - bob=0", "ann:\n  put X - -", "ann:\n  put abcdefghi - -",
            "Ann:\n  put x - -", "ann::\n  put x - -", "ann:\n  PUT x - -", "ann:\n  strike", "ann:\n  strike -",
            "ann:\n  strike ann/0", "ann:\n  hit ann/0", "ann:\n  put x None None",
            "ann:\n  put x - -\nann:\n  put x - -", "bob:\n  put x - -\nann:\n  put x - -", "ann:\nbob:\n  put x - -",
            "ann:\n  put x - -\r", "ann:\r\n  put x - -", "{}", "ann:\n  put x - -\n  put y - -",
            "ann:\n  put x - -\n  put y ann/0 -", "ann:\n  put x - -\n  put y ann/00 - ann=1",
            "ann:\n  put x - -\n  put y ann/0 - ann=01", "ann:\n  put x - -\n  put y ann/0 - ann=+1",
            "ann:\n  put x - -\n  put y ann/0 - ann= 1", "ann:\n  put x - -\n  put y ann/0 - ann=1 ann=1",
            "ann:\n  put x - -\n  put y ann/0 - ann=1 bob=1", "ann:\n  put x - -\n  put y ann - ann=1",
            "ann:\n  put x - -\n  put y ann/ - ann=1", "ann:\n  put x - -\n  put y /0 - ann=1",
            "ann:\n  put x - -\n  put y ann/0/0 - ann=1", "ann:\n  put x - -\n  put y ann/0 - ann=1=1",
            "ann:\n  put x - -\n  put y ann/-0 - ann=1", "ann:\n  put x - -\n  put y ann/0 - ann",
            "ann:\n  put x - -\n  put y ann/0 - =1", "ann:\n  put x - -\n  put y ann/1_0 - ann=1",
            "ann:\n  put x - -\n  put y ann/0 - ann=2", "ann:\n  put x - -\n  put y bob/0 - ann=1",
            "ann:\n  put x - -\nbob:\n  put y ann/0 - ann=" + "1" * 30,
            "ann:\n  put x - -\nbob:\n  put y ann/0 - ann=" + "0" * 390,
            "ann:\n  put x - -\nbob:\n  put y ann/0 - ann=" + "9" * 350, "ann:\n  put x ann/" + "9" * 350 + " -",
            "ann:\n  put x - -\nbob:\n  put y ann/0 - ann=1" + " " * 200,
            "ann:\n  put x - -\nbob:\n  put y ann/0 - ann=1\n  put z bob/0 - bob=1 ann=1",
        ]
        right = "ann:\n  put x - -\nbob:\n  put y ann/0 - ann=1\n  put z bob/0 - ann=1 bob=1"
        self.assertEqual(history_text(read_history(right)), right)
        for text in wrong:
            assert_error(self, InvalidText, text, lambda: read_history(text))
            assert_error(self, InvalidText, text, lambda: read_history(text=text))

    def test_bent_texts(self):
        chance = random.Random(741)
        many = {True: 0, False: 0}
        for deeds in [both_deeds(), talk_deeds(), chain_deeds(), *many_typed(741, 10, 8)]:
            for text in bent_texts(chance, history_text(History(deeds)), 60):
                try:
                    found = read_history(text)
                except InvalidText as error:
                    self.assertIs(error.value, text)
                    many[False] += 1
                else:
                    self.assertEqual(history_text(found), text)
                    many[True] += 1
        self.assertTrue(min(many.values()) > 30)


class Scripts(unittest.TestCase):
    """[75]"""

    def test_the_documents_example(self):
        day = day_script()
        text = "put ann 0 a\nadd ann\ntry\n  strike ann 0\n  row ann\nend"
        self.assertEqual([script_text(day[1:4]), read_script(text)], [text, day[1:4]])
        self.assertEqual([read_script(script_text(day)), read_script(""), script_text([])], [day, [], ""])

    def test_each_command(self):
        script = [
            ("add", "ann"), ("put", "ann", 10, "x"), ("strike", "ann", 0), ("send", "ann", "bob"),
            ("arrive", 10 ** 30 - 1),
            ("tell", "ann", "bob"), ("tell_all",), ("row", "ann"), ("view", "ann"), ("show_alike",), ("undo",),
            ("redo",),
            ("try", []), ("try", [("try", []), ("undo",)]),
        ]
        text = "\n".join([
            "add ann", "put ann 10 x", "strike ann 0", "send ann bob", "arrive " + "9" * 30, "tell ann bob", "tell_all",
            "row ann", "view ann", "show_alike", "undo", "redo", "try", "end", "try", "  try", "  end", "  undo", "end",
        ])
        self.assertEqual([script_text(script=script), read_script(text=text)], [text, script])

    def test_words_that_look_like_commands(self):
        script = [("add", "try"), ("add", "end"), ("try", [("put", "end", 0, "try"), ("row", "row")]), ("tell", "try",
        "end")]
        self.assertEqual(script_text(script), "add try\nadd end\ntry\n  put end 0 try\n  row row\nend\ntell try end")
        self.assertEqual(read_script(script_text(script)), script)

    def test_there_and_back(self):
        chance = random.Random(75)
        for _ in range(60):
            script = random_script(chance, HANDS[:3], chance.randint(0, 15))
            text = script_text(script)
            self.assertEqual(text, "\n".join(told_script(script)))
            self.assertEqual(read_script(text), script)

    def test_just_these_texts(self):
        wrong = [
            "\n", " ", "\t", "add", "add ", "add  ann", "add ann ", " add ann", "\tadd ann", "add\tann", "add ann\n",
            "\nadd ann", "add ann\n\nadd bob", "add ann\r", "ADD ann", "add Ann", "add abcdefghi", "add 1",
            "add ann bob", "addann", "undo ", "undo undo", "tell_all ann", "tell ann", "put ann 0", "put ann a 0",
            "put ann 00 a", "put ann 01 a", "put ann +1 a", "put ann -1 a", "put ann -0 a", "put ann 1_0 a",
            "put ann 1.0 a", "put ann True a", "put ann  a", "arrive", "arrive ann", "arrive 0 0", "arrive 0x1",
            "arrive " + "0" * 390, "hands", "log", "copy", "try", "end", "try\nend\nend", "try\ntry\nend", "try\n end",
            "try\n  end", "try\nend ", "try \nend", "try\n\nend", "try\nadd ann\nend", "try\n add ann\nend",
            "try\n   add ann\nend", "try\n    add ann\nend", "try\n\tadd ann\nend", "try\n  try\n  add ann\n  end\nend",
            "try\n  try\n  end\n  end", "try\n  try\nend\nend", "  try\n  end", "try\nend\n  add ann", "try end",
            "try []", "[]", "try\n  add ann\nend\n", "end\ntry", "try\n  add ann\n", "try\n  add ann", "try\n  \nend",
            "add ann\n  add bob",
        ]
        for text in wrong:
            assert_error(self, InvalidText, text, lambda: read_script(text))
            assert_error(self, InvalidText, text, lambda: read_script(text=text))
        self.assertEqual(read_script("try\n  try\n    add ann\n  end\nend"), [("try", [("try", [("add", "ann")])])])

    def test_bent_texts(self):
        chance = random.Random(751)
        many = {True: 0, False: 0}
        for _ in range(12):
            for text in bent_texts(chance, script_text(random_script(chance, HANDS[:3], 10)), 60):
                try:
                    found = read_script(text)
                except InvalidText as error:
                    self.assertIs(error.value, text)
                    many[False] += 1
                else:
                    self.assertEqual(script_text(found), text)
                    many[True] += 1
        self.assertTrue(min(many.values()) > 30)


class Wrong(unittest.TestCase):
    """[2]"""

    def test_wrong_arguments(self):
        assert_errors(self, history_text, {"history": None}, {"history": (InvalidHistory, NO_HISTORIES)})
        assert_errors(self, script_text, {"script": None}, {"script": (InvalidScript, wrong_scripts())})
        for call in [read_history, read_script]:
            assert_errors(self, call, {"text": ""}, {"text": (InvalidText, NO_TEXTS)})

    def test_nothing_is_shared(self):
        text = script_text(day_script())
        found = read_script(text)
        found[3][1].clear()
        found.clear()
        self.assertEqual(read_script(text), day_script())
        script = day_script()
        script_text(script)
        self.assertEqual(script, day_script())


class Limits(unittest.TestCase):
    """[3]"""

    def test_long_texts_are_read_at_once(self):
        begun = time.perf_counter()
        text = history_text(History(largest_deeds()))
        self.assertEqual(history_text(read_history(text)), text)
        script = [("put", "ann", 10 ** 29 + at, "x") for at in range(250)]
        self.assertEqual(read_script(script_text(script)), script)
        deep = []
        for _ in range(30):
            deep = [("try", deep), ("undo",)]
        self.assertEqual(read_script(script_text(deep)), deep)
        lines = "\n".join(["  put x - -" + " ann=1" * 65] * 250)
        assert_error(self, InvalidText, lines, lambda: read_history(lines))
        lines = "\n".join(["arrive " + "9" * 393] * 250)
        self.assertEqual(script_text(read_script(lines)), lines)
        self.assertLess(time.perf_counter() - begun, 5)


if __name__ == "__main__":
    unittest.main()
