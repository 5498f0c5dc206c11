import random
import time
import unittest

from plays import day_script, random_script, wrong_scripts
from samples import HANDS, nested
from slownet import all_told, told_of
from unmixed.devices import Net
from unmixed.errors import InvalidNet, InvalidScript, RowError
from unmixed.histories import History
from unmixed.scripts import end_of, play, shortened
from wrongs import HUGE, assert_error, assert_errors

NO_NETS = [None, True, 0, "", "ann", [], {}, (), Net, History({}), nested(40), RowError()]


def slow_said(net, script):
    """[72], word by word: by the methods themselves, and nets put back by copies."""
    found = []
    for word, *things in script:
        if word == "try":
            kept = net.copy()
            found.append(("tried", slow_said(net, things[0])))
            net.made, net.undone = kept.made, kept.undone
            continue
        try:
            told = getattr(net, word)(*things)
        except RowError as error:
            found.append(("refused", type(error).__name__))
        else:
            found.append(("done",) if told is None else ("told", told))
    return found


class Play(unittest.TestCase):
    """[72]"""

    def test_the_documents_example(self):
        self.assertEqual(play(Net(), day_script()), [
            ("done",), ("told", ("ann", 0)), ("refused", "InvalidHand"),
            ("tried", [("told", ("ann", 0)), ("told", [])]), ("done",), ("told", 1), ("refused", "InvalidPlace"),
            ("told", True),
        ])

    def test_each_command(self):
        script = [
            ("add", "ann"), ("add", "bob"), ("put", "ann", 0, "a"), ("send", "ann", "bob"), ("arrive", 0),
            ("arrive", 0), ("strike", "bob", 0), ("row", "ann"), ("row", "bob"), ("view", "bob"), ("show_alike",),
            ("tell", "bob", "ann"), ("tell_all",), ("show_alike",), ("undo",), ("undo",), ("row", "ann"),
            ("redo",), ("row", "ann"),
        ]
        self.assertEqual(play(net=Net(), script=script), [
            ("done",), ("done",), ("told", ("ann", 0)), ("told", 0), ("told", 1), ("told", 0), ("told", ("ann", 0)),
            ("told", ["a"]), ("told", []), ("told", {"ann": 1, "bob": 1}), ("told", False), ("told", 1), ("told", 0),
            ("told", True), ("done",), ("done",), ("told", ["a"]), ("done",), ("told", []),
        ])

    def test_errors_are_said_and_the_script_goes_on(self):
        script = [
            ("undo",), ("redo",), ("row", "ann"), ("view", "ann"), ("arrive", 0), ("add", "ann"),
            ("put", "ann", 1, "a"), ("strike", "ann", 0), ("send", "ann", "ann"), ("tell", "ann", "bob"),
            ("arrive", HUGE), ("put", "ann", 0, "a"),
        ]
        self.assertEqual(play(Net(), script), [
            ("refused", "NothingToUndo"), ("refused", "NothingToRedo"), ("refused", "InvalidHand"),
            ("refused", "InvalidHand"), ("refused", "InvalidNumber"), ("done",), ("refused", "InvalidPlace"),
            ("refused", "InvalidPlace"), ("refused", "InvalidHand"), ("refused", "InvalidHand"),
            ("refused", "InvalidNumber"), ("told", ("ann", 0)),
        ])

    def test_the_net_is_changed(self):
        net = Net()
        net.add("ann")
        said = play(net, [("put", "ann", 0, "x"), ("add", "bob"), ("undo",)])
        self.assertEqual(said, [("told", ("ann", 0)), ("done",), ("done",)])
        self.assertEqual([net.row("ann"), net.hands(), len(net.log())], [["x"], ["ann"], 2])
        net.redo()
        self.assertEqual(net.hands(), ["ann", "bob"])

    def test_nothing(self):
        net = Net()
        self.assertEqual([play(net, []), play(net, [("try", [])]), net.log()], [[], [("tried", [])], []])

    def test_tries_within_tries(self):
        net = Net()
        undone = [("put", "ann", 0, "b"), ("row", "ann"), ("undo",), ("undo",), ("undo",), ("undo",)]
        deeper = [("try", [("put", "ann", 1, "c"), ("row", "ann")]), ("row", "ann")]
        script = [
            ("add", "ann"),
            ("try", [("put", "ann", 0, "a"), ("try", undone), ("row", "ann"), ("try", deeper), ("redo",)]),
            ("row", "ann"),
        ]
        told_undone = [("told", ("ann", 1)), ("told", ["b", "a"]), *[("done",)] * 3, ("refused", "NothingToUndo")]
        told_deeper = [("tried", [("told", ("ann", 1)), ("told", ["a", "c"])]), ("told", ["a"])]
        self.assertEqual(play(net, script), [
            ("done",),
            ("tried", [
                ("told", ("ann", 0)), ("tried", told_undone), ("told", ["a"]), ("tried", told_deeper),
                ("refused", "NothingToRedo"),
            ]),
            ("told", []),
        ])
        self.assertEqual(net.log(), [("add", "ann")])

    def test_played_within_a_block(self):
        net = Net()
        net.add("ann")
        kept = all_told(net)
        with net.trial():
            play(net, day_script())
        self.assertEqual(all_told(net), kept)

    def test_random_scripts(self):
        chance = random.Random(72)
        for _ in range(60):
            script = random_script(chance, HANDS[:chance.randint(1, 3)], chance.randint(1, 15))
            net, slow = Net(), Net()
            self.assertEqual(repr(play(net, script)), repr(slow_said(slow, script)))
            self.assertEqual(all_told(net), all_told(slow))

    def test_judged_whole_before_anything_is_played(self):
        for script in wrong_scripts():
            net = Net()
            net.add("bob")
            kept = all_told(net)
            assert_error(self, InvalidScript, script, lambda: play(net, script))
            self.assertEqual(all_told(net), kept)

    def test_wrong_arguments(self):
        good = {"net": Net(), "script": []}
        assert_errors(self, play, good, {"net": (InvalidNet, NO_NETS), "script": (InvalidScript, wrong_scripts())})

    def test_nothing_is_shared(self):
        net, script = Net(), day_script()
        said = play(net, [*script, ("row", "ann"), ("view", "ann"), ("try", [("view", "bob")])])
        kept, told = all_told(net), repr(said)
        script[3][1].clear()
        script.clear()
        self.assertEqual(repr(said), told)
        said[3][1].clear()
        said[8][1].append("x")
        said[9][1]["zoe"] = 3
        said.clear()
        self.assertEqual(all_told(net), kept)


class Ends(unittest.TestCase):
    """[73]: ends"""

    def test_the_documents_example(self):
        self.assertEqual(end_of(day_script()), {"ann": ["a"], "bob": ["a"]})

    def test_hands_ascend(self):
        script = [("add", "cy"), ("add", "ann"), ("put", "cy", 0, "x"), ("add", "bob"), ("tell", "cy", "bob")]
        found = end_of(script=script)
        self.assertEqual(list(found.items()), [("ann", []), ("bob", ["x"]), ("cy", ["x"])])

    def test_nothing(self):
        for script in [[], [("undo",)], [("try", [("add", "ann")])], [("add", "ann"), ("undo",)]]:
            self.assertEqual(end_of(script), {})

    def test_random_scripts(self):
        chance = random.Random(73)
        for _ in range(30):
            script = random_script(chance, HANDS[:3], 12)
            net = Net()
            slow_said(net, script)
            self.assertEqual(list(end_of(script).items()), [(hand, net.row(hand)) for hand in net.hands()])

    def test_wrong_arguments(self):
        for call in [end_of, shortened]:
            assert_errors(self, call, {"script": []}, {"script": (InvalidScript, wrong_scripts())})


def slow_shortened(script):
    """[73], word by word."""
    end, at = end_of(script), len(script)
    while at:
        at -= 1
        if end_of([*script[:at], *script[at + 1:]]) == end:
            script = [*script[:at], *script[at + 1:]]
    return script


class Shortened(unittest.TestCase):
    """[73]: scripts without what is not needed"""

    def test_the_documents_example(self):
        day = day_script()
        self.assertEqual(shortened(day), [day[0], day[1], day[4], day[5]])
        self.assertEqual(day, day_script())

    def test_tries_and_questions_are_not_needed(self):
        self.assertEqual(shortened(script=[("try", [("add", "ann")]), ("row", "ann"), ("undo",), ("show_alike",)]), [])
        self.assertEqual(shortened([]), [])

    def test_from_the_last_one_to_the_first(self):
        # The last strike is needed; once the second word is left out, neither the first strike nor the first word is.
        script = [
            ("add", "ann"), ("put", "ann", 0, "x"), ("strike", "ann", 0), ("put", "ann", 0, "x"), ("strike", "ann", 0),
        ]
        self.assertEqual(shortened(script), [script[0], script[4]])
        script = [("add", "ann"), ("put", "ann", 0, "x"), ("undo",), ("redo",), ("put", "ann", 0, "x"), ("undo",)]
        self.assertEqual(shortened(script), slow_shortened(script))
        # A command that would raise an error at the end stays, where it was needed when it was looked at.
        script = [("add", "ann"), ("put", "ann", 0, "x"), ("put", "ann", 0, "x"), ("strike", "ann", 1)]
        self.assertEqual(shortened(script), slow_shortened(script))
        self.assertEqual(shortened(script), [script[0], script[1], script[3]])

    def test_undo_may_be_needed(self):
        script = [("add", "ann"), ("add", "bob"), ("undo",)]
        self.assertEqual(shortened(script), script)
        script = [("add", "bob"), ("undo",), ("add", "ann")]
        self.assertEqual(shortened(script), [("undo",), ("add", "ann")])

    def test_random_scripts(self):
        chance = random.Random(731)
        for _ in range(30):
            script = random_script(chance, HANDS[:chance.randint(1, 3)], chance.randint(1, 14))
            found = shortened(script)
            self.assertEqual(found, slow_shortened(script))
            self.assertEqual(end_of(found), end_of(script))
            self.assertIs(all(command in script and command[0] != "try" for command in found), True)

    def test_nothing_is_shared(self):
        script = day_script()
        found = shortened(script)
        found.clear()
        self.assertEqual(script, day_script())
        self.assertEqual(len(shortened(script)), 4)
        # Also where nothing is left out.
        script = [("add", "ann"), ("put", "ann", 0, "x")]
        shortened(script).clear()
        self.assertEqual(len(script), 2)


class Limits(unittest.TestCase):
    """[3]"""

    def test_thirty_commands_nested_four_deep(self):
        chance = random.Random(4)
        begun = time.perf_counter()
        for _ in range(3):
            script = random_script(chance, HANDS[:3], 24)
            script += [("try", [("try", [("try", [("try", [("tell_all",), ("row", "ann")])])])])]
            self.assertEqual(end_of(shortened(script)), end_of(script))
        self.assertLess(time.perf_counter() - begun, 10)

    def test_huge_counts(self):
        huge = 10 ** 30 - 1
        script = [("add", "ann"), ("put", "ann", huge, "x"), ("strike", "ann", huge), ("arrive", huge)]
        self.assertEqual(play(Net(), script)[1:], [
            ("refused", "InvalidPlace"), ("refused", "InvalidPlace"), ("refused", "InvalidNumber"),
        ])


class Told(unittest.TestCase):
    """[72]: what is told of nets that are played on"""

    def test_the_log_of_a_script(self):
        net = Net()
        play(net, day_script())
        day = day_script()
        self.assertEqual(told_of(net)["log"], [day[0], day[1], day[4], day[5]])


if __name__ == "__main__":
    unittest.main()
