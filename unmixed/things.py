"""The things of a history: whether objects are things, or lists of all of them."""

from unmixed.errors import InvalidMark, InvalidOrder
from unmixed.forms import has_mark_form, is_list_of
from unmixed.histories import check_history


def is_thing(history, value):
    """Return whether any object is a thing of a history."""
    # The form comes first: Python takes a mark with False for one with 0.
    return has_mark_form(value) and value in history.neighbours


def is_listing(history, value):
    """Return whether any object is a list of all things of a history, each once."""
    return is_list_of(value, list(history.neighbours))


def check_thing(history, thing):
    """Raise InvalidMark for what is no thing of a history."""
    if not is_thing(history, thing):
        raise InvalidMark(thing)


def check_left(history, left):
    """Raise InvalidMark for what is neither None nor a thing of a history."""
    if left is not None:
        check_thing(history, left)


def check_listing(history, things):
    """Raise InvalidOrder for what is no list of all things of a history, each once."""
    if not is_listing(history, things):
        raise InvalidOrder(things)


def check_with_thing(history, thing):
    """Raise the first error of a history and a thing of it."""
    check_history(history)
    check_thing(history, thing)


def check_two_things(history, one, other):
    """Raise the first error of a history and two things of it."""
    check_with_thing(history, one)
    check_thing(history, other)


def check_with_left(history, left):
    """Raise the first error of a history and a thing of it or None."""
    check_history(history)
    check_left(history, left)
