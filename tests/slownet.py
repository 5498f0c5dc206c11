"""Nets told slowly and apart from the program: all is told anew from the list of the commands, each time."""

import re

from slow import told_order


class Wrong(Exception):
    """A command that raises an error: the name of its class and the wrong object."""

    def __init__(self, name, value=None):
        self.name, self.value = name, value


def is_word(value):
    return isinstance(value, str) and re.fullmatch("[a-z]{1,8}", value) is not None


def is_count(value):
    return isinstance(value, int) and not isinstance(value, bool) and value >= 0


class SlowNet:
    """Devices as lists of the marks that they have; `done` are the commands, `gone` those that were taken back."""

    def __init__(self, done=(), gone=()):
        self.done, self.gone = list(done), list(gone)
        self.deeds, self.has, self.letters = {}, {}, []
        for command in self.done:
            self.make(command)

    def give(self, command):
        """Make a command more, or undo, or redo; return what it returns."""
        if command[0] in ["undo", "redo"]:
            return getattr(self, command[0])()
        told = self.make(command)
        self.done, self.gone = [*self.done, command], []
        return told

    def undo(self):
        if not self.done:
            raise Wrong("NothingToUndo")
        self.__init__(self.done[:-1], [*self.gone, self.done[-1]])

    def redo(self):
        if not self.gone:
            raise Wrong("NothingToRedo")
        self.__init__([*self.done, self.gone[-1]], self.gone[:-1])

    def make(self, command):
        return getattr(self, "make_" + command[0])(*command[1:])

    def device(self, hand):
        if not is_word(hand) or hand not in self.has:
            raise Wrong("InvalidHand", hand)

    def two(self, one, other):
        self.device(one)
        self.device(other)
        if one == other:
            raise Wrong("InvalidHand", other)

    def make_add(self, hand):
        if not is_word(hand) or hand in self.has:
            raise Wrong("InvalidHand", hand)
        self.has[hand] = []

    def order(self, hand):
        neighbours = {mark: self.deeds[mark][2:4] for mark in self.deeds if self.deeds[mark][0] == "put"}
        return [thing for thing in told_order(neighbours) if thing in self.has[hand]]

    def marks(self, hand):
        self.device(hand)
        gone = [self.deeds[mark][1] for mark in self.has[hand] if self.deeds[mark][0] == "strike"]
        return [thing for thing in self.order(hand) if thing not in gone]

    def row(self, hand):
        return [self.deeds[thing][1] for thing in self.marks(hand)]

    def view(self, hand):
        self.device(hand)
        owners = [owner for owner, _ in self.has[hand]]
        return {owner: owners.count(owner) for owner in sorted(set(owners))}

    def deed(self, hand, deed):
        mark = (hand, len([other for other in self.deeds if other[0] == hand]))
        self.deeds[mark] = (*deed, self.view(hand))
        self.has[hand].append(mark)
        return mark

    def make_put(self, hand, place, word):
        things = self.marks(hand)
        if not is_count(place) or place > len(things):
            raise Wrong("InvalidPlace", place)
        if not is_word(word):
            raise Wrong("InvalidWord", word)
        left = things[place - 1] if place else None
        fenced = [None, *self.order(hand), None]
        return self.deed(hand, ("put", word, left, fenced[fenced.index(left) + 1]))

    def make_strike(self, hand, place):
        things = self.marks(hand)
        if not is_count(place) or place >= len(things):
            raise Wrong("InvalidPlace", place)
        self.deed(hand, ("strike", things[place]))
        return things[place]

    def hear(self, hand, marks):
        new = [mark for mark in marks if mark not in self.has[hand]]
        self.has[hand] += new
        return len(new)

    def make_send(self, one, other):
        self.two(one, other)
        self.letters.append((one, other, list(self.has[one])))
        return len(self.letters) - 1

    def make_arrive(self, number):
        if not is_count(number) or number >= len(self.letters):
            raise Wrong("InvalidNumber", number)
        return self.hear(*self.letters[number][1:])

    def make_tell(self, one, other):
        self.two(one, other)
        return self.hear(other, self.has[one])

    def make_tell_all(self):
        return sum(self.hear(hand, list(self.deeds)) for hand in self.has)

    def lacks(self, one, other):
        self.device(one)
        self.device(other)
        return sorted(mark for mark in self.has[other] if mark not in self.has[one])

    def told(self):
        """All that there is to be told of it."""
        hands = sorted(self.has)
        return {
            "hands": hands, "letters": [letter[:2] for letter in self.letters], "log": self.done,
            "rows": [self.row(hand) for hand in hands], "views": [self.view(hand) for hand in hands],
            "marks": [self.marks(hand) for hand in hands],
            "lacks": [self.lacks(one, other) for one in hands for other in hands],
            "alike": len({tuple(self.row(hand)) for hand in hands}) < 2,
            "heard": len({tuple(sorted(self.has[hand])) for hand in hands}) < 2,
            "deeds": {hand: [self.deeds[mark] for mark in sorted(self.deeds) if mark[0] == hand]
                      for hand in sorted({hand for hand, _ in self.deeds})},
        }


def told_of(net):
    """The same of a net of the program."""
    hands = net.hands()
    history = net.history()
    return {
        "hands": hands, "letters": net.letters(), "log": net.log(), "rows": [net.row(hand) for hand in hands],
        "views": [net.view(hand) for hand in hands], "marks": [net.marks(hand) for hand in hands],
        "lacks": [net.lacks(one, other) for one in hands for other in hands], "alike": net.show_alike(),
        "heard": net.all_heard(), "deeds": {hand: history.deeds(hand) for hand in history.hands()},
    }


def all_told(net):
    """All that a net tells, also once its commands are taken back, or made again, one by one."""
    found = [repr(told_of(net))]
    for step in ["undo", "redo"]:
        other = net.copy()
        while True:
            try:
                getattr(other, step)()
            except ValueError:
                break
            found.append(repr(told_of(other)))
    return found


def random_command(chance, hands, length, letters, wrong=0.1):
    """A command at will, some of them wrong, for devices whose rows have about so many words."""
    def one_of(right, others):
        return chance.choice(right if chance.random() > wrong else others)

    def hand():
        return one_of(hands, ["zoe", None, "", "Ann", ["ann"], 1])

    def place():
        return one_of(range(length + 1), [-1, 99, True, None, "0", [0]])

    def word():
        return one_of(["x", "y", "word"], ["", "X", None, 1, ("x",)])

    kind = chance.choice(["add", "put", "put", "put", "put", "strike", "send", "arrive", "arrive", "tell", "tell_all"])
    if kind == "add":
        return ("add", hand())
    if kind == "put":
        return ("put", hand(), place(), word())
    if kind == "strike":
        return ("strike", hand(), place())
    if kind == "arrive":
        return ("arrive", one_of(range(letters + 1), [-1, False, "0", None]))
    if kind == "tell_all":
        return ("tell_all",) if chance.random() < 0.3 else ("send", hand(), hand())
    return (kind, hand(), hand())
