"""All orders that keep the first rule, told by how the brothers behind each left neighbour stand."""

from unmixed.arranging import all_laid_out, arranged, laid_out, many_choices
from unmixed.errors import InvalidOrder, Refused
from unmixed.forms import is_list_of, is_neighbour
from unmixed.histories import check_history
from unmixed.kin import LEFT, families, places_in, told_pairs
from unmixed.orders import reasons_behind
from unmixed.things import check_listing, check_with_left, is_listing, neighbours_in


def is_first(history, value):
    """Return whether any object is a first list."""
    check_history(history)
    return is_listing(history, value) and keeps_first(neighbours_in(history), value)


def keeps_first(neighbours, listed):
    """Return whether a list of all things keeps the first rule, with each thing ahead of its right neighbour."""
    places = places_in(listed)
    if not all([places[thing] < places[right] for thing, (_, right) in neighbours.items()]):
        return False
    return not reasons_behind(neighbours, listed)


def brother_orders(history, left):
    """Return the ascending list of all lists of the brothers behind `left` that keep what `told_ahead` tells."""
    check_with_left(history, left)
    neighbours = neighbours_in(history)
    return arranged(families(neighbours).get(left, []), told_pairs(neighbours, left), [])


def brother_lists(neighbours):
    """Return the dictionary from the left neighbours, None ahead, to all lists of the brothers behind each."""
    brothers = families(neighbours)
    return {left: arranged(brothers[left], told_pairs(neighbours, left), []) for left in brothers}


def first_by(history, choice):
    """Return the first list in which the brothers behind each left neighbour stand as a choice tells."""
    check_history(history)
    if not is_choice(neighbours_in(history), choice):
        raise InvalidOrder(choice)
    return laid_out(choice)


def is_choice(neighbours, value):
    """Return whether any object is a dictionary from just the left neighbours to lists of `brother_lists`."""
    if not isinstance(value, dict) or not all([is_neighbour(left) for left in value]):
        return False
    brothers = families(neighbours)
    if len(value) != len(brothers) or not all([left in value for left in brothers]):
        return False
    if not all([is_list_of(value[left], brothers[left]) for left in brothers]):
        return False
    return all([keeps_told(neighbours, left, value[left]) for left in brothers])


def keeps_told(neighbours, left, listed):
    """Return whether a list of the brothers behind a left neighbour has the told ones ahead of the others."""
    return all([listed.index(one) < listed.index(other) for one, other in told_pairs(neighbours, left)])


def choice_of(history, things):
    """Return the choice of a first list."""
    check_history(history)
    check_listing(history, things)
    neighbours = neighbours_in(history)
    if not keeps_first(neighbours, things):
        raise Refused(things)
    return {left: [thing for thing in things if neighbours[thing][LEFT] == left] for left in families(neighbours)}


def many_first(history):
    """Return how many first lists there are."""
    check_history(history)
    return many_choices(brother_lists(neighbours_in(history)))


def all_first(history):
    """Return the ascending list of all first lists."""
    check_history(history)
    return all_laid_out(brother_lists(neighbours_in(history)))
