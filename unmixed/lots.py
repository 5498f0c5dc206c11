"""Lots: things with the same neighbours. The order comes of how each lot is dealt, and of nothing else."""

from itertools import permutations
from math import factorial

from unmixed.arranging import arranged
from unmixed.errors import InvalidOrder, Refused
from unmixed.forms import is_list_of
from unmixed.histories import check_history
from unmixed.kin import RIGHT
from unmixed.orders import deciding
from unmixed.things import check_listing, check_with_thing, is_listing
from unmixed.walks import walked


def lots(history):
    """Return the ascending list of all lots."""
    check_history(history)
    return lots_in(history.neighbours)


def lots_in(neighbours):
    """Return the ascending list of the ascending lists of two things or more with the same neighbours."""
    alike = {}
    for thing in neighbours:
        alike.setdefault(neighbours[thing], []).append(thing)
    return sorted([things for things in alike.values() if len(things) > 1])


def lot_of(history, thing):
    """Return the lot that has a thing, None if none has it."""
    check_with_thing(history, thing)
    found = [lot for lot in lots(history) if thing in lot]
    return found[0] if found else None


def keeps_three(history, value):
    """Return whether any object is a list of all things, each once, that keeps the first three rules of the order."""
    check_history(history)
    return is_listing(history, value) and keeps_rules(history, value)


def keeps_rules(history, listed):
    """Return whether a list of all things, each once, keeps the first three rules of the order."""
    # Each list that does comes of its own dealing, and of no other one.
    return list_dealt(history, dealing_in(history, listed)) == listed


def dealing_in(history, listed):
    """Return how each lot is dealt in a list of all things, each once."""
    return [[thing for thing in listed if thing in lot] for lot in lots(history)]


def list_by(history, dealing):
    """Return the list that keeps the first three rules and in which the things of each lot stand as they are dealt."""
    check_history(history)
    if not is_dealing(history, dealing):
        raise InvalidOrder(dealing)
    return list_dealt(history, dealing)


def is_dealing(history, value):
    """Return whether any object is a list of lists of the things of each lot, each once."""
    found = lots(history)
    if not isinstance(value, list) or len(value) != len(found):
        return False
    return all([is_list_of(dealt, lot) for dealt, lot in zip(value, found)])


def list_dealt(history, dealing):
    """Return the list of a dealing."""
    return walked_by(puts_in(history), lots(history), dealing)


def puts_in(history):
    """Return the list of the tuples of each thing and its neighbours, each behind all of its past."""
    return [(thing, left, right) for thing, (left, right) in history.walk.neighbours.items()]


def walked_by(puts, dealt_lots, dealing):
    """Return the list in which the things of lots stand as they are dealt, of the puts of a history."""
    names = {thing: thing for thing, _, _ in puts}
    names[None] = None
    # Marks decide of nothing but how the things of lots stand. So these take one another's, as they are dealt.
    for lot, dealt in zip(dealt_lots, dealing):
        for name, thing in zip(lot, dealt):
            names[thing] = name
    things = {names[thing]: thing for thing in names}
    return [things[name] for name in walked([(names[thing], names[left], names[right]) for thing, left, right in puts])]


def dealing_of(history, things):
    """Return the dealing of a list that keeps the first three rules."""
    check_history(history)
    check_listing(history, things)
    if not keeps_rules(history, things):
        raise Refused(things)
    return dealing_in(history, things)


def many_by_lots(history):
    """Return how many lists keep the first three rules."""
    many = 1
    for lot in lots(history):
        many = many * factorial(len(lot))
    return many


def all_by_lots(history):
    """Return the ascending list of all lists that keep the first three rules."""
    found = lots(history)
    dealings = [[]]
    for lot in found:
        sequences = list(permutations(lot))
        dealings = [[*begun, dealt] for begun in dealings for dealt in sequences]
    puts = puts_in(history)
    return sorted([walked_by(puts, found, dealing) for dealing in dealings])


def asked_in_lots(history):
    """Return the ascending list of the pairs of lots just as which some thing and its right neighbour stand."""
    check_history(history)
    neighbours = history.neighbours
    asked = [asked_for(neighbours, thing, neighbours[thing][RIGHT]) for thing in neighbours]
    return sorted({pair for pair in asked if pair is not None})


def asked_for(neighbours, one, other):
    """Return the pair of a lot that has to stand as it is told for one thing to be ahead of another, None if none."""
    # The order has the one ahead of the other: so only the other may come to be the row's end.
    while other is not None:
        word, x, y = deciding(neighbours, one, other)
        if word is not None:
            return None
        if neighbours[x] == neighbours[y]:
            return (x, y)
        # The one comes first just if its right neighbour stands behind that of the other.
        one, other = neighbours[y][RIGHT], neighbours[x][RIGHT]
    return None


def many_set(history):
    """Return how many of the lists that keep the first three rules set each thing ahead of its right neighbour."""
    asked = asked_in_lots(history)
    many = 1
    for lot in lots(history):
        many = many * len(arranged(lot, asked, []))
    return many
