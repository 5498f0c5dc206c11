"""Nets of devices that write, strike and tell one another."""

from unmixed.commands import KINDS, State, carried_out, check_both_devices, check_device
from unmixed.errors import InvalidNet, InvalidRecord, NothingToRedo, NothingToUndo
from unmixed.histories import History
from unmixed.pasts import ascending, lacking
from unmixed.rows import row_shown, things_shown


class Block:
    """What puts a net back, when it is left, to how it was when it was entered."""

    def __init__(self, net):
        self.net = net
        self.made = None
        self.undone = None

    def __enter__(self):
        self.made = self.net.made
        self.undone = self.net.undone
        return self.net

    def __exit__(self, kind, value, trace):
        net = self.net
        net.made = self.made
        net.undone = self.undone


class Net:
    """Devices, one for each hand, each with a view of the one history of all deeds."""

    def __init__(self):
        # Tuples of a command and how the net stood behind it, the eldest first; and those taken back, the last one
        # last. A change makes new lists, so that blocks and copies may keep these.
        self.made = []
        self.undone = []

    def add(self, hand):
        """Put a device in, whose view is empty."""
        return self.give(("add", hand))

    def put(self, hand, place, word):
        """Let a device put a word at a place of its row; return the mark of the new thing."""
        return self.give(("put", hand, place, word))

    def strike(self, hand, place):
        """Let a device strike out the thing that shows at a position of its row; return that thing's mark."""
        return self.give(("strike", hand, place))

    def send(self, one, other):
        """Lay a letter from a device to another one on the road; return its number."""
        return self.give(("send", one, other))

    def arrive(self, number):
        """Let a letter come; return how many of its deeds were new."""
        return self.give(("arrive", number))

    def tell(self, one, other):
        """Let a device tell another one all deeds that it has; return how many were new."""
        return self.give(("tell", one, other))

    def tell_all(self):
        """Give all devices all deeds; return how many were new, in all."""
        return self.give(("tell_all",))

    def give(self, command):
        """Carry a command out; return what it returns."""
        state, told = carried_out(self.state(), command)
        self.made = [*self.made, (command, state)]
        self.undone = []
        return told

    def state(self):
        """Return how the net stands."""
        return self.made[-1][1] if self.made else State(History({}), {}, [])

    def hands(self):
        """Return the ascending list of the devices' hands."""
        return sorted(self.state().views)

    def letters(self):
        """Return the list of the tuples of the two hands of each letter, as they were sent."""
        return [(one, other) for one, other, _ in self.state().posted]

    def row(self, hand):
        """Return the row that a device shows."""
        state = self.state()
        check_device(state, hand)
        return row_shown(state.told, state.views[hand])

    def view(self, hand):
        """Return a device's view."""
        state = self.state()
        check_device(state, hand)
        return ascending(state.views[hand])

    def marks(self, hand):
        """Return the marks of the things that a device shows, in order."""
        state = self.state()
        check_device(state, hand)
        return things_shown(state.told, state.views[hand])

    def history(self):
        """Return the history of all deeds."""
        return self.state().told

    def lacks(self, one, other):
        """Return the ascending list of the marks of the deeds that the other device has and the one has not."""
        state = self.state()
        check_both_devices(state, one, other)
        return lacking(state.views[one], state.views[other])

    def show_alike(self):
        """Return whether all devices show the same row."""
        rows = [self.row(hand) for hand in self.hands()]
        return all([words == rows[0] for words in rows])

    def all_heard(self):
        """Return whether all devices have the same view."""
        views = [self.view(hand) for hand in self.hands()]
        return all([view == views[0] for view in views])

    def trial(self):
        """Return a block: when it is left, the net is as it was when it was entered."""
        return Block(self)

    def attempt(self, action):
        """Call a function with the net in a block; return what it returns."""
        with self.trial():
            return action(self)

    def copy(self):
        """Return an independent net that is the same in everything, and in no block."""
        other = Net()
        other.made = self.made
        other.undone = self.undone
        return other

    def undo(self):
        """Take the last command back."""
        if not self.made:
            raise NothingToUndo(None)
        self.undone = [*self.undone, self.made[-1]]
        self.made = self.made[:-1]

    def redo(self):
        """Make the command that was taken back last again."""
        if not self.undone:
            raise NothingToRedo(None)
        self.made = [*self.made, self.undone[-1]]
        self.undone = self.undone[:-1]

    def log(self):
        """Return the list of the commands that are not taken back, the eldest first."""
        return [command for command, _ in self.made]


def replayed(net, log):
    """Return a copy of a net on which the commands of a log are made, one after the other."""
    check_net(net)
    if not is_log(log):
        raise InvalidRecord(log)
    other = net.copy()
    for command in log:
        other.give(command)
    return other


def is_log(value):
    """Return whether any object is a list of tuples of a command's word and as many things as it asks for."""
    return isinstance(value, list) and all([has_command_form(command) for command in value])


def has_command_form(value):
    """Return whether any object is a tuple of a command's word and as many things, whatever they are."""
    if not isinstance(value, tuple) or not value or not isinstance(value[0], str) or value[0] not in KINDS:
        return False
    return len(value) == len(KINDS[value[0]]) + 1


def check_net(net):
    """Raise InvalidNet for what is no net."""
    if not isinstance(net, Net):
        raise InvalidNet(net)
