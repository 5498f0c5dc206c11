"""Brothers: things put behind one and the same left neighbour, what hangs on them, and which of them lead others."""

from unmixed.kin import LEFT, RIGHT, families, hang_way, is_put_ahead, leaders_of, stretch_of, told_by_lefts
from unmixed.things import check_two_things, check_with_left, check_with_thing


def left_of(history, thing):
    """Return the left neighbour of a thing, None for the row's begin."""
    check_with_thing(history, thing)
    return history.neighbours[thing][LEFT]


def right_of(history, thing):
    """Return the right neighbour of a thing, None for the row's end."""
    check_with_thing(history, thing)
    return history.neighbours[thing][RIGHT]


def hangs_on(history, one, other):
    """Return whether the one thing hangs on the other."""
    check_two_things(history, one, other)
    return one != other and other in hang_way(history.neighbours, one)


def brothers_behind(history, left):
    """Return the ascending list of the things put behind a thing, or at the row's begin."""
    check_with_left(history, left)
    return families(history.neighbours).get(left, [])


def stretch(history, thing):
    """Return the ascending list of a thing and all that hang on it."""
    check_with_thing(history, thing)
    return stretch_of(history.neighbours, thing)


def is_ahead(history, one, other):
    """Return whether the one thing was put ahead of the other, its brother."""
    check_two_things(history, one, other)
    neighbours = history.neighbours
    return is_put_ahead(neighbours, one) and neighbours[one][RIGHT] == other


def led_by(history, thing):
    """Return the ascending list of all by which a thing is led."""
    check_with_thing(history, thing)
    return leaders_of(history.neighbours, thing)


def roots(history, left):
    """Return the ascending list of the brothers behind a thing, or at the begin, that were put ahead of none."""
    check_with_left(history, left)
    neighbours = history.neighbours
    return [thing for thing in families(neighbours).get(left, []) if not is_put_ahead(neighbours, thing)]


def told_ahead(history, left):
    """Return the ascending list of the tuples of two brothers whose stretches the neighbours of things tell apart."""
    check_with_left(history, left)
    return told_by_lefts(history.neighbours).get(left, [])
