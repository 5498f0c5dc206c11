"""All orders that keep the first rule, told by how the brothers behind each left neighbour stand."""

from unmixed.arranging import all_laid_out, arranged, laid_out, many_choices
from unmixed.errors import InvalidOrder, Refused
from unmixed.forms import is_list_of, is_neighbour
from unmixed.histories import check_history
from unmixed.kin import LEFT, families, places_in, told_by_lefts
from unmixed.orders import reasons_behind
from unmixed.things import check_listing, check_with_left, is_listing


def is_first(history, value):
    """Return whether any object is a first list."""
    check_history(history)
    return is_listing(history, value) and keeps_first(history.neighbours, value)


def keeps_first(neighbours, listed):
    """Return whether a list of all things keeps the first rule, with each thing ahead of its right neighbour."""
    places = places_in(listed)
    if not all([places[thing] < places[right] for thing, (_, right) in neighbours.items()]):
        return False
    return not reasons_behind(neighbours, listed)


def brother_orders(history, left):
    """Return the ascending list of all lists of the brothers behind `left` that keep what `told_ahead` tells."""
    check_with_left(history, left)
    brothers = families(history.neighbours)
    told = told_by_lefts(history.neighbours)
    return arranged(brothers.get(left, []), told.get(left, []), [])


def brother_lists(neighbours):
    """Return the dictionary from the left neighbours, None ahead, to all lists of the brothers behind each."""
    brothers = families(neighbours)
    told = told_by_lefts(neighbours)
    return {left: arranged(brothers[left], told.get(left, []), []) for left in brothers}


def first_by(history, choice):
    """Return the first list in which the brothers behind each left neighbour stand as a choice tells."""
    check_history(history)
    if not is_choice(history.neighbours, choice):
        raise InvalidOrder(choice)
    return laid_out(choice)


def is_choice(neighbours, value):
    """Return whether any object is a dictionary from just the left neighbours to lists of `brother_lists`."""
    if not isinstance(value, dict) or not all([is_neighbour(left) for left in value]):
        return False
    brothers = families(neighbours)
    if len(value) != len(brothers) or not all([left in value for left in brothers]):
        return False
    if not all([is_list_of(value[left], brothers[left]) for left in brothers]):
        return False
    told = told_by_lefts(neighbours)
    return all([value[left].index(one) < value[left].index(other) for left in told for one, other in told[left]])


def choice_of(history, things):
    """Return the choice of a first list."""
    check_history(history)
    check_listing(history, things)
    neighbours = history.neighbours
    if not keeps_first(neighbours, things):
        raise Refused(things)
    return {left: [thing for thing in things if neighbours[thing][LEFT] == left] for left in families(neighbours)}


def many_first(history):
    """Return how many first lists there are."""
    check_history(history)
    return many_choices(brother_lists(history.neighbours))


def all_first(history):
    """Return the ascending list of all first lists."""
    check_history(history)
    return all_laid_out(brother_lists(history.neighbours))
