"""The one order of a history's things, what speaks against other lists of them, and what decides of two things."""

from unmixed.errors import Refused
from unmixed.histories import check_history
from unmixed.kin import LEFT, RIGHT, hang_way, is_put_ahead, lead_way, leaders_of, places_in, stretch_of
from unmixed.pasts import has_mark
from unmixed.things import check_listing, check_two_things, check_with_thing, is_listing, neighbours_in
from unmixed.views import check_view


def order(history):
    """Return the one order of the things."""
    check_history(history)
    return history.order()


def order_in(history, view):
    """Return the order of the things of a view."""
    check_history(history)
    check_view(history, view)
    # More deeds never turn two things about: the order of all, the others left out, is that of the view.
    return [thing for thing in history.order() if has_mark(view, thing)]


def is_order(history, value):
    """Return whether any object is the order."""
    check_history(history)
    return is_listing(history, value) and value == history.order()


def reasons(history, value):
    """Return the ascending list of all that speaks against a list of all things, each once."""
    check_history(history)
    check_listing(history, value)
    neighbours = neighbours_in(history)
    found = reasons_behind(neighbours, value) + reasons_ahead(neighbours, value) + reasons_beside(neighbours, value)
    return sorted(found)


def reasons_behind(neighbours, listed):
    """Return what speaks by the first rule, that of things and their left neighbours, against a list."""
    found = []
    for thing in neighbours:
        left = neighbours[thing][LEFT]
        if left is not None:
            let = stretch_of(neighbours, left)
            found.extend([("behind", thing, other) for other in wrong_between(listed, left, thing, let, left)])
    return found


def reasons_ahead(neighbours, listed):
    """Return what speaks by the second rule, that of things put ahead of brothers, against a list."""
    found = []
    for thing in neighbours:
        if is_put_ahead(neighbours, thing):
            right = neighbours[thing][RIGHT]
            let = [other for leader in leaders_of(neighbours, right) for other in stretch_of(neighbours, leader)]
            found.extend([("ahead", thing, other) for other in wrong_between(listed, thing, right, let, right)])
    return found


def wrong_between(listed, first, last, let, blamed):
    """Return what is blamed if the last thing stands ahead of the first, else what is not let between them."""
    start, end = listed.index(first), listed.index(last)
    if end < start:
        return [blamed]
    return [thing for thing in listed[start + 1:end] if thing not in let]


def reasons_beside(neighbours, listed):
    """Return what speaks by the third and the fourth rule, those of two brothers, against a list."""
    places = places_in(listed)
    pairs = [(one, other) for one in neighbours for other in neighbours if places[other] < places[one]]
    told = [(rule_for(neighbours, places, one, other), one, other) for one, other in pairs]
    return [reason for reason in told if reason[0] is not None]


def rule_for(neighbours, places, one, other):
    """Return the word of the rule of two brothers by which the one has to come first, None if there is none."""
    if neighbours[one] == neighbours[other]:
        return "mark" if one < other else None
    left, right = neighbours[one]
    other_left, other_right = neighbours[other]
    if left != other_left or is_put_ahead(neighbours, one) or is_put_ahead(neighbours, other):
        return None
    return "farther" if places[right] > places[other_right] else None


def decided(history, one, other):
    """Return by what it is decided which of two things comes first: a word and the two that decide."""
    check_two_things(history, one, other)
    if one == other:
        raise Refused(one)
    neighbours = neighbours_in(history)
    word, first, last = deciding(neighbours, one, other)
    if word is not None:
        return (word, first, last)
    places = places_in(history.order())
    word = "mark" if neighbours[first] == neighbours[last] else "farther"
    return (word, first, last) if places[first] < places[last] else (word, last, first)


def deciding(neighbours, one, other):
    """Return the word and the two things that decide which of two things comes first, the first one ahead.

    Where the two that decide are told apart by their right neighbours or by their marks, the word is None, and they
    stand as the two things of which they decide.
    """
    ones, others = hang_way(neighbours, one), hang_way(neighbours, other)
    if other in ones:
        return ("behind", other, one)
    if one in others:
        return ("behind", one, other)
    x, y = last_apart(ones, others)
    ones, others = lead_way(neighbours, x), lead_way(neighbours, y)
    if y in ones:
        return ("ahead", x, y)
    if x in others:
        return ("ahead", y, x)
    x, y = last_apart(ones, others)
    return (None, x, y)


def last_apart(one, other):
    """Return the last things of two ways that are not on both."""
    alone = [thing for thing in one if thing not in other]
    other_alone = [thing for thing in other if thing not in one]
    return alone[-1], other_alone[-1]


def place_of(history, thing):
    """Return the position of a thing in the order."""
    check_with_thing(history, thing)
    return history.order().index(thing)
