"""The commands of a net: what each of them makes of how the net stands, and what it returns."""

from unmixed.errors import InvalidHand, InvalidNumber, InvalidWord
from unmixed.forms import is_count, is_word
from unmixed.histories import with_deed
from unmixed.pasts import united
from unmixed.shown import neighbours_for, thing_at

# What stands behind the word of each command.
KINDS = {
    "add": ("word",),
    "put": ("word", "count", "word"),
    "strike": ("word", "count"),
    "send": ("word", "word"),
    "arrive": ("count",),
    "tell": ("word", "word"),
    "tell_all": (),
}


class State:
    """How a net stands: the history of all deeds, the views of the devices, the letters. It never changes."""

    def __init__(self, told, views, posted):
        self.told = told
        self.views = views
        self.posted = posted


def add_device(state, hand):
    """Put a device in."""
    if not is_word(hand) or hand in state.views:
        raise InvalidHand(hand)
    return State(state.told, {**state.views, hand: {}}, state.posted), None


def put_word(state, hand, place, word):
    """Let a device put a word; return the mark of the new thing."""
    check_device(state, hand)
    view = state.views[hand]
    left, right = neighbours_for(state.told, view, place)
    if not is_word(word):
        raise InvalidWord(word)
    return done(state, hand, ("put", word, left, right, view)), (hand, view.get(hand, 0))


def strike_thing(state, hand, place):
    """Let a device strike out what shows at a position of its row; return the mark of that thing."""
    check_device(state, hand)
    view = state.views[hand]
    thing = thing_at(state.told, view, place)
    return done(state, hand, ("strike", thing, view)), thing


def done(state, hand, deed):
    """Return how a net stands with a deed more of a device, whose view is the deed's past."""
    view = united(deed[-1], {hand: deed[-1].get(hand, 0) + 1})
    return State(with_deed(state.told, hand, deed), {**state.views, hand: view}, state.posted)


def send_letter(state, one, other):
    """Lay a letter on the road; return its number."""
    check_two_devices(state, one, other)
    letter = (one, other, state.views[one])
    return State(state.told, state.views, [*state.posted, letter]), len(state.posted)


def let_arrive(state, number):
    """Let a letter come; return how many deeds were new."""
    if not is_count(number) or number >= len(state.posted):
        raise InvalidNumber(number)
    _, other, view = state.posted[number]
    return hearing(state, [other], view)


def tell_one(state, one, other):
    """Let a device tell another one all that it has; return how many deeds were new."""
    check_two_devices(state, one, other)
    return hearing(state, [other], state.views[one])


def tell_everyone(state):
    """Give all devices all deeds; return how many were new, in all."""
    return hearing(state, list(state.views), state.told.counts)


def hearing(state, hands, view):
    """Return how a net stands once some devices have all deeds of a view, and how many were new to them."""
    views = {hand: united(state.views[hand], view) for hand in hands}
    new = sum([sum(views[hand].values()) - sum(state.views[hand].values()) for hand in hands])
    return State(state.told, {**state.views, **views}, state.posted), new


ACTIONS = {
    "add": add_device,
    "put": put_word,
    "strike": strike_thing,
    "send": send_letter,
    "arrive": let_arrive,
    "tell": tell_one,
    "tell_all": tell_everyone,
}


def carried_out(state, command):
    """Return how a net stands behind a command, and what the command returns."""
    word, *things = command
    action = ACTIONS[word]
    return action(state, *things)


def check_device(state, hand):
    """Raise InvalidHand for what is no hand of a device."""
    if not is_word(hand) or hand not in state.views:
        raise InvalidHand(hand)


def check_both_devices(state, one, other):
    """Raise InvalidHand for the first of two that is no hand of a device."""
    check_device(state, one)
    check_device(state, other)


def check_two_devices(state, one, other):
    """Raise InvalidHand for the first of two that is no hand of a device, and for the second one if both are one."""
    check_both_devices(state, one, other)
    if one == other:
        raise InvalidHand(other)
