"""How things are kin: what they hang on, lead and lean on.

`neighbours` is a dictionary from the things, ascending, to tuples of their left and right neighbour.
"""

LEFT = 0
RIGHT = 1


def hang_way(neighbours, thing):
    """Return the list of a thing and all on which it hangs, the nearest first."""
    return way_by(neighbours, thing, LEFT)


def lean_way(neighbours, thing):
    """Return the list of a thing and all things on which it leans, the nearest first."""
    return way_by(neighbours, thing, RIGHT)


def way_by(neighbours, thing, side):
    """Return the list of a thing, its neighbour on a side, that one's, and on."""
    way = []
    while thing is not None:
        way.append(thing)
        thing = neighbours[thing][side]
    return way


def is_put_ahead(neighbours, thing):
    """Return whether a thing was put ahead of its right neighbour, that being its brother."""
    left, right = neighbours[thing]
    return right is not None and neighbours[right][LEFT] == left


def lead_way(neighbours, thing):
    """Return the list of a thing and all brothers that it leads, the nearest first."""
    way = [thing]
    while is_put_ahead(neighbours, way[-1]):
        way.append(neighbours[way[-1]][RIGHT])
    return way


def stretch_of(neighbours, thing):
    """Return the ascending list of a thing and all that hang on it."""
    return [other for other in neighbours if thing in hang_way(neighbours, other)]


def leaders_of(neighbours, thing):
    """Return the ascending list of all by which a thing is led."""
    return [other for other in neighbours if other != thing and thing in lead_way(neighbours, other)]


def families(neighbours):
    """Return the dictionary from the left neighbours, None ahead, to the ascending lists of what is put behind each."""
    brothers = {left: [] for left in [None, *neighbours]}
    for thing in neighbours:
        brothers[neighbours[thing][LEFT]].append(thing)
    return {left: brothers[left] for left in brothers if brothers[left]}


def stretches(neighbours):
    """Return the dictionary from the things to the ascending lists of each and all that hang on it."""
    found = {thing: [] for thing in neighbours}
    for thing in neighbours:
        for other in hang_way(neighbours, thing):
            found[other].append(thing)
    return found


def told_by_lefts(neighbours):
    """Return the dictionary from left neighbours to the pairs of brothers whose stretches some thing puts in order."""
    told = {}
    for thing in neighbours:
        right = neighbours[thing][RIGHT]
        if right is not None:
            one, other = last_apart(hang_way(neighbours, thing), hang_way(neighbours, right))
            told.setdefault(neighbours[one][LEFT], []).append((one, other))
    return {left: sorted(set(told[left])) for left in told}


def last_apart(one, other):
    """Return the last things of two ways that are not on both."""
    alone = [thing for thing in one if thing not in other]
    other_alone = [thing for thing in other if thing not in one]
    return alone[-1], other_alone[-1]


def places_in(listed):
    """Return the dictionary from the things of a list to their positions, with None, the end, behind all of them."""
    places = {thing: at for at, thing in enumerate(listed)}
    places[None] = len(listed)
    return places
