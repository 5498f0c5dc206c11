"""The things of a history: their neighbours, and whether objects are things, or lists of all of them."""

from unmixed.errors import InvalidMark, InvalidOrder
from unmixed.forms import has_mark_form, is_list_of
from unmixed.histories import check_history


def deeds_by_marks(history):
    """Return the dictionary from the marks of all deeds of a history, ascending, to the deeds."""
    return {(hand, at): deed for hand in history.hands() for at, deed in enumerate(history.deeds(hand))}


def neighbours_in(history):
    """Return the dictionary from the things of a history, ascending, to tuples of their left and right neighbour."""
    deeds = deeds_by_marks(history)
    return {mark: (deeds[mark][2], deeds[mark][3]) for mark in history.things()}


def is_thing(history, value):
    """Return whether any object is a thing of a history."""
    # The form comes first: Python takes a mark with False for one with 0.
    return has_mark_form(value) and value in history.things()


def is_listing(history, value):
    """Return whether any object is a list of all things of a history, each once."""
    return is_list_of(value, history.things())


def check_thing(history, thing):
    """Raise InvalidMark for what is no thing of a history."""
    if not is_thing(history, thing):
        raise InvalidMark(thing)


def check_left(history, left):
    """Raise InvalidMark for what is neither None nor a thing of a history."""
    if left is not None:
        check_thing(history, left)


def check_listing(history, things):
    """Raise InvalidOrder for what is no list of all things of a history, each once."""
    if not is_listing(history, things):
        raise InvalidOrder(things)


def check_with_thing(history, thing):
    """Raise the first error of a history and a thing of it."""
    check_history(history)
    check_thing(history, thing)


def check_two_things(history, one, other):
    """Raise the first error of a history and two things of it."""
    check_with_thing(history, one)
    check_thing(history, other)


def check_with_left(history, left):
    """Raise the first error of a history and a thing of it or None."""
    check_history(history)
    check_left(history, left)
