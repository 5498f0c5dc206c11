"""How things are kin: what they hang on, lead and lean on.

`neighbours` is a dictionary from the things, ascending, to tuples of their left and right neighbour.
"""

LEFT = 0
RIGHT = 1


def hang_way(neighbours, thing):
    """Return the list of a thing and all on which it hangs, the nearest first."""
    return way_by(neighbours, thing, LEFT)


def lean_way(neighbours, thing):
    """Return the list of a thing and all things on which it leans, the nearest first."""
    return way_by(neighbours, thing, RIGHT)


def way_by(neighbours, thing, side):
    """Return the list of a thing, its neighbour on a side, that one's, and on."""
    way = []
    while thing is not None:
        way.append(thing)
        thing = neighbours[thing][side]
    return way


def is_put_ahead(neighbours, thing):
    """Return whether a thing was put ahead of its right neighbour, that being its brother."""
    left, right = neighbours[thing]
    return right is not None and neighbours[right][LEFT] == left


def lead_way(neighbours, thing):
    """Return the list of a thing and all brothers that it leads, the nearest first."""
    way = [thing]
    while is_put_ahead(neighbours, way[-1]):
        way.append(neighbours[way[-1]][RIGHT])
    return way


def stretch_of(neighbours, thing):
    """Return the ascending list of a thing and all that hang on it."""
    return [other for other in neighbours if thing in hang_way(neighbours, other)]


def leaders_of(neighbours, thing):
    """Return the ascending list of all by which a thing is led."""
    return [other for other in neighbours if other != thing and thing in lead_way(neighbours, other)]


def leans_on(neighbours, one, other):
    """Return whether one thing leans on another one."""
    return one != other and other in lean_way(neighbours, one)


def families(neighbours):
    """Return the dictionary from the left neighbours, None ahead, to the ascending lists of what is put behind each."""
    brothers = {left: [] for left in [None, *neighbours]}
    for thing in neighbours:
        brothers[neighbours[thing][LEFT]].append(thing)
    return {left: brothers[left] for left in brothers if brothers[left]}


def told_pairs(neighbours, left):
    """Return the ascending list of the pairs of brothers behind `left` in whose stretches some two neighbours are."""
    tops = {thing: brother_on_way(neighbours, thing, left) for thing in neighbours}
    tops[None] = None
    pairs = [(tops[thing], tops[neighbours[thing][RIGHT]]) for thing in neighbours]
    return sorted({(one, other) for one, other in pairs if one is not None and other is not None and one != other})


def brother_on_way(neighbours, thing, left):
    """Return the brother behind `left` in whose stretch a thing is, None if there is none."""
    found = [other for other in hang_way(neighbours, thing) if neighbours[other][LEFT] == left]
    return found[0] if found else None


def places_in(listed):
    """Return the dictionary from the things of a list to their positions, with None, the end, behind all of them."""
    places = {thing: at for at, thing in enumerate(listed)}
    places[None] = len(listed)
    return places
