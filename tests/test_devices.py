import random
import time
import unittest

from samples import HANDS, NO_WORDS, both_deeds, nested
from slownet import SlowNet, Wrong, all_told, random_command, told_of
from unmixed.devices import Net, replayed
from unmixed.errors import (
    InvalidHand, InvalidNet, InvalidNumber, InvalidPlace, InvalidRecord, InvalidWord, NothingToRedo, NothingToUndo,
    RowError,
)
from unmixed.histories import History, first_wrong
from unmixed.shown import row, seen_by
from wrongs import HUGE, assert_error, assert_errors

A, B, C, D, E = [(hand, 0) for hand in HANDS]
NO_PLACES = [
    None, True, False, -1, -HUGE, HUGE, 60, "", "0", [], [0], (), (0,), {}, {0: 0}, A, InvalidPlace(0), History({}),
    Net(),
]


def net_of(*hands):
    net = Net()
    for hand in hands:
        net.add(hand)
    return net


def talked():
    """Two devices, one of which has put two words, a letter on the road, and a command taken back."""
    net = net_of("ann", "bob")
    net.put("ann", 0, "one")
    net.send("ann", "bob")
    net.put("ann", 1, "two")
    net.tell("ann", "bob")
    net.strike("bob", 0)
    net.put("bob", 1, "b")
    net.undo()
    return net


def give(net, command):
    """Call the method of a command's name."""
    return getattr(net, command[0])(*command[1:])


def outcome(call):
    """What a call returns, or the name of the error that it raises and the object in its field."""
    try:
        return ("told", call())
    except RowError as error:
        return ("wrong", type(error).__name__, error.value)
    except Wrong as error:
        return ("wrong", error.name, error.value)


class Devices(unittest.TestCase):
    """[65]"""

    def test_a_net_without_devices(self):
        net = Net()
        self.assertEqual([net.hands(), net.letters(), net.log(), net.history()], [[], [], [], History({})])
        self.assertEqual([net.show_alike(), net.all_heard(), net.tell_all()], [True, True, 0])

    def test_devices_come_with_empty_views(self):
        net = Net()
        self.assertEqual([net.add("bob"), net.add("ann")], [None, None])
        self.assertEqual(net.hands(), ["ann", "bob"])
        self.assertEqual([net.row("ann"), net.view("ann"), net.marks("ann")], [[], {}, []])
        net.put("ann", 0, "x")
        net.add(hand="cy")
        self.assertEqual([net.row("cy"), net.view("cy"), net.history().size()], [[], {}, 1])

    def test_what_is_no_new_hand(self):
        net = talked()
        for value in [*NO_WORDS, "ann", "bob", Net()]:
            assert_error(self, InvalidHand, value, lambda: net.add(value))
            assert_error(self, InvalidHand, value, lambda: net.add(hand=value))
        self.assertEqual(all_told(net), all_told(talked()))

    def test_two_nets_have_nothing_in_common(self):
        one, other = Net(), Net()
        one.add("ann")
        self.assertEqual([one.hands(), other.hands()], [["ann"], []])
        self.assertTrue(one == one)


class Puts(unittest.TestCase):
    """[66]"""

    def test_the_documents_example(self):
        net = Net()
        found = [net.add("ann"), net.add("bob"), net.put("ann", 0, "one"), net.put("ann", 1, "two"),
                 net.tell("ann", "bob"), net.put("bob", 1, "b"), net.put("ann", 1, "a")]
        self.assertEqual(found, [None, None, A, ("ann", 1), 2, B, ("ann", 2)])
        found = [net.row("ann"), net.row("bob"), net.lacks("bob", "ann"), net.tell_all(), net.row("bob")]
        self.assertEqual(found, [["one", "a", "two"], ["one", "b", "two"], [("ann", 2)], 2, ["one", "a", "b", "two"]])
        self.assertEqual([net.show_alike(), net.all_heard()], [True, True])
        found = [net.strike("bob", 0), net.row("bob"), net.marks("bob"), net.view("bob"), net.undo(), net.view("bob")]
        self.assertEqual(found, [
            A, ["a", "b", "two"], [("ann", 2), B, ("ann", 1)], {"ann": 3, "bob": 2}, None, {"ann": 3, "bob": 1},
        ])
        self.assertEqual([len(net.log()), replayed(Net(), net.log()).row("ann")], [8, ["one", "a", "b", "two"]])
        found = [net.send("ann", "bob"), net.put("ann", 0, "all"), net.send("ann", "bob"), net.arrive(1),
                 net.arrive(0), net.arrive(1), net.row("bob"), net.letters()]
        self.assertEqual(found, [
            0, ("ann", 3), 1, 1, 0, 0, ["all", "one", "a", "b", "two"], [("ann", "bob"), ("ann", "bob")],
        ])

    def test_the_past_is_the_devices_view(self):
        net = talked()
        net.put(hand="bob", place=1, word="b")
        # bob's device has heard of ann's deeds before bob's first one, and struck one of them.
        self.assertEqual(net.history().deeds("bob"), [
            ("strike", A, {"ann": 2}), ("put", "b", ("ann", 1), None, {"ann": 2, "bob": 1}),
        ])
        self.assertEqual(net.row("bob"), ["two", "b"])
        self.assertEqual(net.row("ann"), ["one", "two"])

    def test_heard_of_but_not_written_behind(self):
        net = net_of("ann", "bob")
        net.put("ann", 0, "x")
        net.tell("ann", "bob")
        self.assertEqual([net.view("bob"), seen_by(net.history(), "bob")], [{"ann": 1}, {}])
        self.assertEqual(net.strike(hand="bob", place=0), A)
        self.assertEqual([net.row("bob"), net.row("ann")], [[], ["x"]])

    def test_wrong_puts(self):
        net = talked()
        good = {"hand": "bob", "place": 1, "word": "x"}
        hands, words = [*NO_WORDS, "cy", "zoe", Net()], [*NO_WORDS, Net()]
        wrong = {"hand": (InvalidHand, hands), "place": (InvalidPlace, [*NO_PLACES, 2]), "word": (InvalidWord, words)}
        assert_errors(self, net.put, good, wrong)
        wrong["place"] = (InvalidPlace, [*NO_PLACES, 1, 2])
        assert_errors(self, net.strike, {"hand": "bob", "place": 0}, wrong)
        self.assertEqual(all_told(net), all_told(talked()))


class Letters(unittest.TestCase):
    """[67]"""

    def test_a_letter_has_what_its_sender_had(self):
        net = net_of("ann", "bob", "cy")
        net.put("ann", 0, "a")
        self.assertEqual(net.send(one="ann", other="bob"), 0)
        net.put("ann", 1, "b")
        self.assertEqual([net.arrive(number=0), net.row("bob")], [1, ["a"]])
        self.assertEqual([net.send("bob", "cy"), net.send("ann", "cy")], [1, 2])
        self.assertEqual([net.arrive(2), net.arrive(1), net.arrive(2), net.row("cy")], [2, 0, 0, ["a", "b"]])
        self.assertEqual(net.letters(), [("ann", "bob"), ("bob", "cy"), ("ann", "cy")])

    def test_an_empty_letter(self):
        net = net_of("ann", "bob")
        self.assertEqual([net.send("ann", "bob"), net.put("ann", 0, "x"), net.arrive(0)], [0, A, 0])
        self.assertEqual(net.view("bob"), {})

    def test_numbers_of_letters_taken_back_come_again(self):
        net = talked()
        self.assertEqual(net.send("bob", "ann"), 1)
        net.undo()
        self.assertEqual(net.letters(), [("ann", "bob")])
        assert_error(self, InvalidNumber, 1, lambda: net.arrive(1))
        with net.trial():
            self.assertEqual([net.send("ann", "bob"), net.send("bob", "ann")], [1, 2])
        assert_error(self, InvalidNumber, 1, lambda: net.arrive(1))
        self.assertEqual(net.send("ann", "bob"), 1)

    def test_tell(self):
        net = net_of("ann", "bob", "cy")
        net.put("ann", 0, "a")
        net.put("bob", 0, "b")
        self.assertEqual([net.tell(one="ann", other="bob"), net.tell("ann", "bob"), net.tell("bob", "ann")], [1, 0, 1])
        self.assertEqual([net.row("ann"), net.row("bob"), net.row("cy")], [["a", "b"], ["a", "b"], []])
        self.assertEqual([net.tell_all(), net.tell_all(), net.row("cy"), net.letters()], [2, 0, ["a", "b"], []])

    def test_wrong_numbers(self):
        net = talked()
        for value in [*NO_PLACES, 1, 2]:
            assert_error(self, InvalidNumber, value, lambda: net.arrive(value))
            assert_error(self, InvalidNumber, value, lambda: net.arrive(number=value))
        for value in [0, 1, None]:
            assert_error(self, InvalidNumber, value, lambda: Net().arrive(value))
        self.assertEqual(all_told(net), all_told(talked()))

    def test_wrong_hands(self):
        net = talked()
        hands = [*NO_WORDS, "cy", "zoe", Net()]
        for call in [net.send, net.tell]:
            wrong = {"one": (InvalidHand, hands), "other": (InvalidHand, [*hands, "ann"])}
            assert_errors(self, call, {"one": "ann", "other": "bob"}, wrong)
        self.assertEqual(all_told(net), all_told(talked()))


class Asked(unittest.TestCase):
    """[68] and [69]"""

    def test_wrong_hands(self):
        net = talked()
        hands = [*NO_WORDS, "cy", "zoe", Net()]
        for call in [net.row, net.view, net.marks]:
            assert_errors(self, call, {"hand": "ann"}, {"hand": (InvalidHand, hands)})
        wrong = {"one": (InvalidHand, hands), "other": (InvalidHand, hands)}
        assert_errors(self, net.lacks, {"one": "ann", "other": "bob"}, wrong)
        self.assertEqual(all_told(net), all_told(talked()))

    def test_lacks(self):
        net = talked()
        self.assertEqual([net.lacks("ann", "bob"), net.lacks(one="bob", other="ann")], [[B], []])
        self.assertEqual(net.lacks("ann", "ann"), [])

    def test_the_history_of_all_deeds(self):
        net = talked()
        history = net.history()
        self.assertEqual(history.hands(), ["ann", "bob"])
        self.assertEqual(row(history, net.view("bob")), net.row("bob"))
        net.put("ann", 0, "n")
        self.assertEqual([history.size(), net.history().size()], [3, 4])

    def test_alike_though_views_differ(self):
        net = net_of("ann", "bob")
        net.put("ann", 0, "x")
        self.assertEqual([net.show_alike(), net.all_heard()], [False, False])
        net.strike("ann", 0)
        self.assertEqual([net.show_alike(), net.all_heard()], [True, False])
        net.tell_all()
        self.assertEqual([net.show_alike(), net.all_heard()], [True, True])
        net.add("cy")
        self.assertEqual([net.show_alike(), net.all_heard()], [True, False])

    def test_hands_of_views_ascend(self):
        net = net_of("cy", "ann", "bob")
        for hand in ["cy", "bob", "ann"]:
            net.put(hand, 0, "x")
            net.tell_all()
        self.assertEqual(list(net.view("bob").items()), [("ann", 1), ("bob", 1), ("cy", 1)])

    def test_same_deeds_same_rows_whichever_way_they_came(self):
        chance = random.Random(68)
        for _ in range(15):
            net, hands = net_of(*HANDS[:4]), HANDS[:4]
            for _ in range(14):
                outcome(lambda: give(net, random_command(chance, hands, 3, 4, wrong=0)))
            end = net.copy()
            end.tell_all()
            other = net.copy()
            while not other.all_heard():
                one, two = chance.sample(hands, 2)
                if chance.random() < 0.5:
                    other.tell(one, two)
                else:
                    number = other.send(one, two)
                    other.arrive(chance.randint(0, number))
            self.assertEqual([other.row(hand) for hand in hands], [end.row(hand) for hand in hands])
            self.assertTrue(end.show_alike() and end.all_heard() and other.show_alike())


class Random(unittest.TestCase):
    """[65] to [71]: nets held against nets told slowly"""

    def test_commands_right_and_wrong_and_taken_back(self):
        found = set()
        for seed in range(12):
            chance = random.Random(seed)
            hands = HANDS[:chance.randint(1, 5)]
            net, slow = Net(), SlowNet()
            for at in range(70):
                if at < len(hands):
                    steps = [("add", hands[at])]
                elif chance.random() < 0.08:
                    steps = [("undo",)] * chance.randint(1, 3) + [("redo",)] * chance.randint(0, 3)
                else:
                    shortest = min([len(net.row(hand)) for hand in net.hands()], default=0)
                    steps = [random_command(chance, hands, shortest, len(net.letters()))]
                for step in steps:
                    wanted = outcome(lambda: slow.give(step))
                    self.assertEqual(outcome(lambda: give(net, step)), wanted, step)
                    found.add(wanted[1] if wanted[0] == "wrong" else (step[0], "told"))
                self.assertEqual(repr(told_of(net)), repr(slow.told()))
            self.assertIsNone(first_wrong(told_of(net)["deeds"]))
        wanted = {"InvalidHand", "InvalidPlace", "InvalidWord", "InvalidNumber", "NothingToRedo"}
        self.assertTrue(wanted <= found, found)


class Blocks(unittest.TestCase):
    """[2] and [70]: blocks"""

    def test_the_net_itself(self):
        net = talked()
        with net.trial() as held:
            self.assertIs(held, net)
            held.put("ann", 0, "x")
            self.assertEqual(net.row("ann"), ["x", "one", "two"])
        self.assertEqual(all_told(net), all_told(talked()))

    def test_left_by_errors(self):
        for error in [KeyError("x"), RowError(1), InvalidHand("x"), Exception(), StopIteration()]:
            net = talked()
            with self.assertRaises(type(error)) as held:
                with net.trial():
                    net.put("ann", 0, "x")
                    net.add("cy")
                    raise error
            self.assertIs(held.exception, error)
            self.assertEqual(all_told(net), all_told(talked()))

    def test_left_by_the_nets_own_errors(self):
        net = talked()
        with self.assertRaises(InvalidPlace) as held:
            with net.trial():
                net.tell_all()
                net.put("ann", 99, "x")
        self.assertEqual(held.exception.value, 99)
        self.assertEqual(all_told(net), all_told(talked()))

    def test_left_by_return_and_break(self):
        net = talked()
        for _ in range(2):
            with net.trial():
                net.put("bob", 0, "x")
                break
        self.assertEqual(all_told(net), all_told(talked()))

    def test_undo_and_redo_reach_what_was_ahead(self):
        net = talked()
        with net.trial():
            net.redo()
            self.assertEqual(net.row("bob"), ["two", "b"])
            for _ in range(9):
                outcome(net.undo)
            self.assertEqual([net.hands(), net.log()], [[], []])
            net.add("zoe")
            assert_error(self, NothingToRedo, None, net.redo)
        self.assertEqual(all_told(net), all_told(talked()))
        net.redo()
        self.assertEqual(net.row("bob"), ["two", "b"])

    def test_blocks_within_blocks(self):
        net = talked()
        with net.trial():
            net.put("ann", 0, "x")
            inner = all_told(net)
            with self.assertRaises(KeyError):
                with net.trial():
                    net.undo()
                    net.undo()
                    net.send("ann", "bob")
                    with net.trial():
                        net.add("cy")
                    self.assertEqual(net.hands(), ["ann", "bob"])
                    raise KeyError(1)
            self.assertEqual(all_told(net), inner)
        self.assertEqual(all_told(net), all_told(talked()))

    def test_ten_deep(self):
        net = talked()

        def deeper(depth):
            kept = all_told(net)
            with net.trial():
                net.put("ann", 0, "x")
                if depth:
                    deeper(depth - 1)
                self.assertEqual(net.row("ann").count("x"), 10 - depth)
            self.assertEqual(all_told(net), kept)

        deeper(9)
        self.assertEqual(all_told(net), all_told(talked()))

    def test_a_block_begins_when_it_is_entered(self):
        net = talked()
        block = net.trial()
        net.put("ann", 0, "x")
        kept = all_told(net)
        with block:
            net.put("ann", 0, "y")
        self.assertEqual(all_told(net), kept)

    def test_a_block_that_is_never_entered(self):
        net = talked()
        net.trial()
        self.assertEqual(all_told(net), all_told(talked()))
        net.put("ann", 0, "x")
        self.assertEqual(net.row("ann"), ["x", "one", "two"])

    def test_random_blocks(self):
        left = []
        for seed in range(10):
            chance = random.Random(seed)
            net, hands = net_of(*HANDS[:3]), HANDS[:3]
            for _ in range(6):
                outcome(lambda: give(net, random_command(chance, hands, 3, 3)))

            def deeper(depth):
                kept = all_told(net)
                try:
                    with net.trial():
                        for _ in range(chance.randint(1, 5)):
                            chosen = chance.random()
                            if chosen < 0.2 and depth:
                                deeper(depth - 1)
                            elif chosen < 0.4:
                                outcome(chance.choice([net.undo, net.redo]))
                            elif chosen < 0.5:
                                give(net, random_command(chance, hands, 3, 3, wrong=0.9))
                            else:
                                outcome(lambda: give(net, random_command(chance, hands, 3, 3)))
                except RowError as error:
                    left.append(error)
                self.assertEqual(all_told(net), kept)

            for _ in range(4):
                deeper(3)
        self.assertGreater(len(left), 9)


class Attempts(unittest.TestCase):
    """[2] and [70]: attempt"""

    def test_the_very_object_and_the_net_itself(self):
        net, given, made = talked(), [], [[1], {}]

        def action(passed):
            given.append(passed)
            passed.put("ann", 0, "x")
            self.assertEqual(passed.row("ann"), ["x", "one", "two"])
            return made

        self.assertIs(net.attempt(action), made)
        self.assertEqual(len(given), 1)
        self.assertIs(given[0], net)
        self.assertEqual(all_told(net), all_told(talked()))
        self.assertIs(net.attempt(action=lambda passed: passed), net)
        self.assertIsNone(net.attempt(lambda passed: passed.undo()))
        self.assertEqual(net.attempt(lambda passed: passed.put("ann", 2, "n")), ("ann", 2))
        self.assertEqual(all_told(net), all_told(talked()))

    def test_errors_go_on(self):
        net, error = talked(), KeyError("x")

        def action(passed):
            passed.tell_all()
            raise error

        with self.assertRaises(KeyError) as held:
            net.attempt(action)
        self.assertIs(held.exception, error)
        assert_error(self, InvalidHand, "zoe", lambda: net.attempt(lambda passed: passed.row("zoe")))
        self.assertEqual(all_told(net), all_told(talked()))

    def test_attempts_within_attempts(self):
        net = talked()
        found = net.attempt(lambda one: one.attempt(lambda other: [other.undo(), other.log()])[1])
        self.assertEqual(found, talked().log()[:-1])
        self.assertEqual(all_told(net), all_told(talked()))


class Copies(unittest.TestCase):
    """[2] and [70]: copies"""

    def test_the_same_and_independent(self):
        net = talked()
        other = net.copy()
        self.assertIsNot(other, net)
        self.assertEqual(all_told(other), all_told(net))
        other.redo()
        other.put("ann", 0, "x")
        self.assertEqual(all_told(net), all_told(talked()))
        kept = all_told(other)
        net.undo()
        net.add("zoe")
        self.assertEqual(all_told(other), kept)

    def test_a_copy_made_in_a_block_is_in_none(self):
        net = talked()
        with net.trial():
            net.put("ann", 0, "x")
            other = net.copy()
            net.put("ann", 0, "y")
        self.assertEqual(other.row("ann"), ["x", "one", "two"])
        other.undo()
        self.assertEqual(repr(told_of(other)), repr(told_of(talked())))
        assert_error(self, InvalidHand, "ann", lambda: other.add("ann"))

    def test_a_copys_blocks_are_its_own(self):
        net = talked()
        other = net.copy()
        with other.trial():
            net.put("ann", 0, "x")
            other.put("ann", 0, "y")
        self.assertEqual([net.row("ann"), other.row("ann")], [["x", "one", "two"], ["one", "two"]])


class Undo(unittest.TestCase):
    """[70]"""

    def test_nothing_to_take_back_or_to_make_again(self):
        net = Net()
        for _ in range(2):
            assert_error(self, NothingToUndo, None, net.undo)
            assert_error(self, NothingToRedo, None, net.redo)
        net.add("ann")
        assert_error(self, NothingToRedo, None, net.redo)
        self.assertEqual([net.undo(), net.hands(), net.redo(), net.hands()], [None, [], None, ["ann"]])

    def test_as_if_never_given(self):
        for command in [
            ("add", "cy"), ("put", "bob", 1, "x"), ("strike", "ann", 0), ("send", "ann", "bob"), ("arrive", 0),
            ("tell", "bob", "ann"), ("tell_all",),
        ]:
            net = talked()
            told = give(net, command)
            behind = repr(told_of(net))
            self.assertEqual(net.log(), [*talked().log(), command])
            net.undo()
            self.assertEqual(repr(told_of(net)), repr(told_of(talked())))
            net.redo()
            self.assertEqual(repr(told_of(net)), behind)
            net.undo()
            self.assertEqual(repr(give(net, command)), repr(told))

    def test_a_new_command_drops_what_was_taken_back(self):
        net = talked()
        net.undo()
        net.send("ann", "bob")
        assert_error(self, NothingToRedo, None, net.redo)

    def test_errors_and_questions_drop_nothing(self):
        net = talked()
        for step in [
            lambda: net.add("ann"), lambda: net.put("zoe", 0, "x"), lambda: net.put("ann", 9, "x"),
            lambda: net.put("ann", 0, ""), lambda: net.strike("ann", 2), lambda: net.send("ann", "ann"),
            lambda: net.arrive(1), lambda: net.tell("ann", "ann"), lambda: net.row("ann"), net.hands, net.history,
            net.letters, net.log, net.copy, net.trial, net.show_alike, net.all_heard, lambda: net.attempt(Net.tell_all),
        ]:
            outcome(step)
            self.assertEqual(all_told(net), all_told(talked()))
        net.redo()
        self.assertEqual(net.row("bob"), ["two", "b"])

    def test_all_the_way(self):
        net = talked()
        told = []
        while outcome(net.undo)[0] == "told":
            told.append(repr(told_of(net)))
        self.assertEqual(repr(told_of(net)), repr(told_of(Net())))
        for wanted in told[-2::-1]:
            net.redo()
            self.assertEqual(repr(told_of(net)), wanted)
        net.redo()
        self.assertEqual(repr(told_of(net)), repr(told_of(talked())))
        net.redo()
        assert_error(self, NothingToRedo, None, net.redo)


class Logs(unittest.TestCase):
    """[71]"""

    def test_the_eldest_first(self):
        self.assertEqual(talked().log(), [
            ("add", "ann"), ("add", "bob"), ("put", "ann", 0, "one"), ("send", "ann", "bob"), ("put", "ann", 1, "two"),
            ("tell", "ann", "bob"), ("strike", "bob", 0),
        ])
        net = talked()
        net.arrive(0)
        net.tell_all()
        self.assertEqual(net.log()[7:], [("arrive", 0), ("tell_all",)])

    def test_commands_of_blocks_are_in_the_log_until_they_are_left(self):
        net = talked()
        with net.trial():
            net.add("cy")
            self.assertEqual(net.log()[7:], [("add", "cy")])
        self.assertEqual(net.log(), talked().log())

    def test_replayed(self):
        net = talked()
        self.assertEqual(repr(told_of(replayed(Net(), net.log()))), repr(told_of(net)))
        self.assertEqual(all_told(replayed(net=net, log=[])), all_told(net))
        other = replayed(net, [("add", "cy"), ("arrive", 0), ("put", "cy", 0, "c")])
        self.assertEqual([other.hands(), other.row("cy"), other.log()[:7]], [["ann", "bob", "cy"], ["c"], net.log()])
        self.assertEqual(all_told(net), all_told(talked()))
        self.assertIsNot(replayed(net, []), net)

    def test_random_logs(self):
        for seed in range(10):
            chance = random.Random(seed)
            net, hands = net_of(*HANDS[:3]), HANDS[:3]
            for _ in range(20):
                outcome(lambda: give(net, random_command(chance, hands, 3, 3)))
            self.assertEqual(repr(told_of(replayed(Net(), net.log()))), repr(told_of(net)))

    def test_the_error_of_the_first_command_that_raises_one(self):
        net, word = talked(), ["x"]
        for log, error, value in [
            ([("add", "ann")], InvalidHand, "ann"), ([("add", "cy"), ("add", word)], InvalidHand, word),
            ([("put", "ann", 0, word), ("add", 1)], InvalidWord, word), ([("arrive", None)], InvalidNumber, None),
            ([("strike", "ann", word)], InvalidPlace, word), ([("tell", "ann", "ann")], InvalidHand, "ann"),
            ([("send", word, word)], InvalidHand, word),
        ]:
            assert_error(self, error, value, lambda: replayed(net, log))
            assert_error(self, error, value, lambda: replayed(net=net, log=log))
        self.assertEqual(all_told(net), all_told(talked()))

    def test_wrong_arguments(self):
        nets = [None, True, 0, "", "ann", [], {}, (), Net, History({}), nested(40), RowError()]
        logs = [
            None, True, 0, "", (), (("tell_all",),), {}, {("tell_all",): 1}, [None], ["tell_all"], [["tell_all"]], [()],
            [("tell_all", 1)], [("tell_all", None)], [("add",)], [("add", "ann", "bob")], [("put", "ann", 0)],
            [("put", "ann", 0, "x", "y")], [("strike", "ann")], [("send", "ann")], [("arrive",)], [("arrive", 0, 0)],
            [("tell", "ann")], [("undo",)], [("redo",)], [("row", "ann")], [("try", [])], [("show_alike",)],
            [("view", "ann")], [("hands",)], [(None, "ann")], [(["add"], "ann")], [("ADD", "ann")], [("", "ann")],
            [(True,)], [("add", "cy"), ("add",)], [("put", "zoe", 9, None), ()], nested(40), [RowError()], Net(),
            History(both_deeds()),
        ]
        assert_errors(self, replayed, {"net": talked(), "log": []}, {
            "net": (InvalidNet, nets), "log": (InvalidRecord, logs),
        })


class NothingIsShared(unittest.TestCase):
    """[2]"""

    def test_what_was_returned_may_be_changed(self):
        net = talked()
        kept = all_told(net)
        for call in [net.hands, net.letters, net.log, lambda: net.row("bob"), lambda: net.view("bob"),
                     lambda: net.marks("bob"), lambda: net.lacks("ann", "bob"), lambda: net.history().deeds("ann")]:
            found = call()
            self.assertIsNot(found, call())
            for member in found:
                if isinstance(member, tuple) and isinstance(member[-1], dict):
                    member[-1]["zoe"] = 7
            found.clear()
            self.assertEqual(all_told(net), kept)

    def test_what_was_passed_may_be_changed(self):
        net, log = Net(), talked().log()
        other = replayed(net, log)
        kept = all_told(other)
        log.clear()
        self.assertEqual(all_told(other), kept)


class Limits(unittest.TestCase):
    """[3]"""

    def test_sixty_commands_of_five_devices(self):
        chance = random.Random(3)
        net = net_of(*HANDS)
        begun = time.perf_counter()
        for _ in range(55):
            length = 24 if net.history().size() else 0
            outcome(lambda: give(net, random_command(chance, HANDS, length, 9, wrong=0)))
        for _ in range(3):
            all_told(net)
        self.assertLess(time.perf_counter() - begun, 10)

    def test_one_that_writes_alone(self):
        net = net_of("ann", "bob")
        begun = time.perf_counter()
        for at in range(24):
            net.put("ann", at, "x")
            net.send("ann", "bob")
        self.assertEqual([net.arrive(23), net.row("bob")], [24, ["x"] * 24])
        self.assertLess(time.perf_counter() - begun, 5)

    def test_somewhat_more_raise_no_error(self):
        hands = [*HANDS, "fay", "gus"]
        net = net_of(*hands)
        for hand in hands:
            for at in range(10):
                net.put(hand, at, "x")
        net.tell_all()
        self.assertEqual(net.row("gus"), ["x"] * 70)


if __name__ == "__main__":
    unittest.main()
