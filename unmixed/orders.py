"""The one order of a history's things, what speaks against other lists of them, and what decides of two things."""

from unmixed.errors import Refused
from unmixed.histories import check_history
from unmixed.kin import LEFT, RIGHT, hang_way, is_put_ahead, last_apart, lead_way, places_in
from unmixed.rows import order_seen
from unmixed.things import check_listing, check_two_things, check_with_thing, is_listing
from unmixed.views import check_with_view


def order(history):
    """Return the one order of the things."""
    check_history(history)
    return list(history.walk.listed)


def order_in(history, view):
    """Return the order of the things of a view."""
    check_with_view(history, view)
    return order_seen(history, view)


def is_order(history, value):
    """Return whether any object is the order."""
    check_history(history)
    return is_listing(history, value) and value == history.walk.listed


def reasons(history, value):
    """Return the ascending list of all that speaks against a list of all things, each once."""
    check_history(history)
    check_listing(history, value)
    neighbours = history.neighbours
    found = reasons_behind(neighbours, value) + reasons_ahead(neighbours, value) + reasons_beside(neighbours, value)
    return sorted(found)


def reasons_behind(neighbours, listed):
    """Return what speaks by the first rule, that of things and their left neighbours, against a list."""
    places = places_in(listed)
    ways = {thing: hang_way(neighbours, thing) for thing in neighbours}
    found = []
    for thing in neighbours:
        left = neighbours[thing][LEFT]
        if left is not None and places[thing] < places[left]:
            found.append(("behind", thing, left))
        elif left is not None:
            inside = listed[places[left] + 1:places[thing]]
            found.extend([("behind", thing, other) for other in inside if left not in ways[other]])
    return found


def reasons_ahead(neighbours, listed):
    """Return what speaks by the second rule, that of things put ahead of brothers, against a list."""
    places = places_in(listed)
    found = []
    for thing in neighbours:
        right = neighbours[thing][RIGHT]
        if is_put_ahead(neighbours, thing) and places[right] < places[thing]:
            found.append(("ahead", thing, right))
        elif is_put_ahead(neighbours, thing):
            inside = listed[places[thing] + 1:places[right]]
            found.extend([("ahead", thing, other) for other in inside if not is_led_in(neighbours, other, right)])
    return found


def is_led_in(neighbours, thing, led):
    """Return whether a thing leads another one, or hangs on one that does."""
    for other in hang_way(neighbours, thing):
        if other != led and led in lead_way(neighbours, other):
            return True
    return False


def reasons_beside(neighbours, listed):
    """Return what speaks by the third and the fourth rule, those of two brothers, against a list."""
    places = places_in(listed)
    pairs = [(one, other) for one in neighbours for other in neighbours if places[other] < places[one]]
    told = [(rule_for(neighbours, places, one, other), one, other) for one, other in pairs]
    return [reason for reason in told if reason[0] is not None]


def rule_for(neighbours, places, one, other):
    """Return the word of the rule of two brothers by which the one has to come first, None if there is none."""
    if neighbours[one] == neighbours[other]:
        return "mark" if one < other else None
    left, right = neighbours[one]
    other_left, other_right = neighbours[other]
    if left != other_left or is_put_ahead(neighbours, one) or is_put_ahead(neighbours, other):
        return None
    return "farther" if places[right] > places[other_right] else None


def decided(history, one, other):
    """Return by what it is decided which of two things comes first: a word and the two that decide."""
    check_two_things(history, one, other)
    if one == other:
        raise Refused(one)
    return decided_in(history, one, other)


def decided_in(history, one, other):
    """Return by what it is decided which of two unlike things comes first."""
    word, first, last = deciding(history.neighbours, one, other)
    if word is not None:
        return (word, first, last)
    listed = history.walk.listed
    word = "mark" if history.neighbours[first] == history.neighbours[last] else "farther"
    return (word, first, last) if listed.index(first) < listed.index(last) else (word, last, first)


def deciding(neighbours, one, other):
    """Return the word and the two things that decide which of two things comes first, the first one ahead.

    Where the two that decide are told apart by their right neighbours or by their marks, the word is None, and they
    stand as the two things of which they decide.
    """
    ones, others = hang_way(neighbours, one), hang_way(neighbours, other)
    if other in ones:
        return ("behind", other, one)
    if one in others:
        return ("behind", one, other)
    x, y = last_apart(ones, others)
    ones, others = lead_way(neighbours, x), lead_way(neighbours, y)
    if y in ones:
        return ("ahead", x, y)
    if x in others:
        return ("ahead", y, x)
    x, y = last_apart(ones, others)
    return (None, x, y)


def place_of(history, thing):
    """Return the position of a thing in the order."""
    check_with_thing(history, thing)
    return history.walk.listed.index(thing)
