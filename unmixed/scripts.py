"""Scripts: lists of commands and questions that are played on nets, tries among them."""

from unmixed.commands import KINDS
from unmixed.devices import Net, check_net
from unmixed.errors import InvalidScript, RowError
from unmixed.forms import is_count, is_word

# What stands behind the word of each command that a script has besides those of a log; a try stands apart.
ASKED = {
    "row": ("word",),
    "view": ("word",),
    "show_alike": (),
    "undo": (),
    "redo": (),
}


def kinds_of(word):
    """Return the tuple of what stands behind the word of a command, None for any other string."""
    return KINDS[word] if word in KINDS else ASKED.get(word)


def is_script(value):
    """Return whether any object is a script, in depth."""
    return isinstance(value, list) and all([is_command(command) for command in value])


def is_command(value):
    """Return whether any object is a command of a script."""
    if not isinstance(value, tuple) or not value or not isinstance(value[0], str):
        return False
    word, *things = value
    if word == "try":
        return len(things) == 1 and is_script(things[0])
    kinds = kinds_of(word)
    if kinds is None or len(kinds) != len(things):
        return False
    return all([is_count(thing) if kind == "count" else is_word(thing) for kind, thing in zip(kinds, things)])


def check_script(script):
    """Raise InvalidScript for what is no script."""
    if not is_script(script):
        raise InvalidScript(script)


def play(net, script):
    """Carry a script out on a net; return what is said, a tuple for each command."""
    check_net(net)
    check_script(script)
    return played(net, script)


def played(net, script):
    """Return what is said to the commands of a script, one after the other."""
    return [said(net, command) for command in script]


def said(net, command):
    """Return what is said to a command, which is carried out on a net."""
    if command[0] == "try":
        return ("tried", tried(net, command[1]))
    try:
        told = called(net, command)
    except RowError as e:
        return ("refused", e.__class__.__name__)
    return ("done",) if told is None else ("told", told)


def tried(net, script):
    """Return what is said to a script that is played in a block."""
    with net.trial():
        return played(net, script)


def called(net, command):
    """Call the method that a command names; return what it returns."""
    word = command[0]
    if word == "row":
        return net.row(command[1])
    if word == "view":
        return net.view(command[1])
    if word == "show_alike":
        return net.show_alike()
    if word == "undo":
        return net.undo()
    if word == "redo":
        return net.redo()
    return net.give(command)


def end_of(script):
    """Return the dictionary from the hands of a new net, at the end of a script, to the rows of their devices."""
    check_script(script)
    return end_in(script)


def end_in(script):
    """Return what `end_of` tells of a script."""
    net = Net()
    played(net, script)
    return {hand: net.row(hand) for hand in net.hands()}


def shortened(script):
    """Return what is left of a script without the commands that its end does not need, left out from the last on.

    A try changes nothing behind it, so none is left.
    """
    check_script(script)
    end = end_in(script)
    left = list(script)
    for at in reversed(range(len(script))):
        shorter = left[:at] + left[at + 1:]
        if end_in(shorter) == end:
            left = shorter
    return left
