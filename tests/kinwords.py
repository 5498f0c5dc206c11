"""Words of sections 5 to 11 of the document, told slowly and apart from the program, which is held against them.

`neighbours` is a dictionary from things to tuples of their neighbours, `things` a list of all of them.
"""

import itertools


def hangs(neighbours, one, other):
    """Return whether the one hangs on the other."""
    left = neighbours[one][0]
    return left is not None and (left == other or hangs(neighbours, left, other))


def was_ahead(neighbours, one, other):
    """Return whether the one was put ahead of the other, its brother."""
    return neighbours[one][1] == other and neighbours[one][0] == neighbours[other][0]


def leads(neighbours, one, other):
    """Return whether the other is led by the one."""
    return any(was_ahead(neighbours, one, x) and (x == other or leads(neighbours, x, other)) for x in neighbours)


def is_root(neighbours, thing):
    return not any(was_ahead(neighbours, thing, other) for other in neighbours)


def leans(neighbours, one, other):
    """Return whether the one leans on the other; all things lean on None."""
    if other is None:
        return True
    right = neighbours[one][1]
    return right is not None and (right == other or leans(neighbours, right, other))


def stretch(neighbours, thing):
    return [other for other in sorted(neighbours) if other == thing or hangs(neighbours, other, thing)]


def brothers(neighbours, left):
    return [thing for thing in sorted(neighbours) if neighbours[thing][0] == left]


def told(neighbours, left):
    """[22]"""
    return [(one, other) for one, other in itertools.permutations(brothers(neighbours, left), 2)
            if any(neighbours[thing][1] in stretch(neighbours, other) for thing in stretch(neighbours, one))]


def inside(things, one, other):
    """What stands between two things, `None` as the one for the begin, as the other for the end."""
    start = -1 if one is None else things.index(one)
    end = len(things) if other is None else things.index(other)
    return things[start + 1:end]


def stands_ahead(things, one, other):
    """Return whether the one stands ahead of the other, `None` being the end."""
    return one is not None and (other is None or things.index(one) < things.index(other))


def reasons(neighbours, things):
    """[25]"""
    found = []
    for thing, (left, right) in neighbours.items():
        if left is not None:
            if stands_ahead(things, thing, left):
                found.append(("behind", thing, left))
            found += [("behind", thing, x) for x in inside(things, left, thing) if not hangs(neighbours, x, left)]
        if not is_root(neighbours, thing):
            if stands_ahead(things, right, thing):
                found.append(("ahead", thing, right))
            leaders = [x for x in neighbours if leads(neighbours, x, right)]
            let = [y for x in leaders for y in stretch(neighbours, x)]
            found += [("ahead", thing, x) for x in inside(things, thing, right) if x not in let]
    for one, other in itertools.permutations(things, 2):
        if neighbours[one][0] != neighbours[other][0] or not stands_ahead(things, other, one):
            continue
        if neighbours[one] == neighbours[other]:
            if one < other:
                found.append(("mark", one, other))
        elif is_root(neighbours, one) and is_root(neighbours, other):
            if stands_ahead(things, neighbours[other][1], neighbours[one][1]):
                found.append(("farther", one, other))
    return sorted(found)


def decided(neighbours, order, one, other):
    """[26]"""
    if hangs(neighbours, one, other):
        return ("behind", other, one)
    if hangs(neighbours, other, one):
        return ("behind", one, other)
    for left in [None, *neighbours]:
        pairs = [(x, y) for x, y in itertools.permutations(brothers(neighbours, left), 2)
                 if one in stretch(neighbours, x) and other in stretch(neighbours, y)]
        if pairs:
            return decided_brothers(neighbours, order, *pairs[0])
    raise AssertionError("no brothers")


def decided_brothers(neighbours, order, x, y):
    if leads(neighbours, x, y):
        return ("ahead", x, y)
    if leads(neighbours, y, x):
        return ("ahead", y, x)
    while True:
        # Go on with both as long as that does not lead to what is on both ways.
        on_x = [z for z in neighbours if was_ahead(neighbours, x, z) and not leads(neighbours, y, z)]
        on_y = [z for z in neighbours if was_ahead(neighbours, y, z) and not leads(neighbours, x, z)]
        if not on_x and not on_y:
            break
        x, y = (on_x or [x])[0], (on_y or [y])[0]
    first, last = sorted([x, y], key=order.index)
    return ("mark" if neighbours[x] == neighbours[y] else "farther", first, last)


def is_first_list(neighbours, things):
    """[29]"""
    for thing, (left, right) in neighbours.items():
        if not stands_ahead(things, thing, right):
            return False
        if left is not None:
            if stands_ahead(things, thing, left):
                return False
            if not all(hangs(neighbours, x, left) for x in inside(things, left, thing)):
                return False
    return True


def is_mirror_list(neighbours, things):
    """[41]"""
    for thing, (left, right) in neighbours.items():
        if not stands_ahead(things, thing, right) or left is not None and stands_ahead(things, thing, left):
            return False
        if not all(leans(neighbours, x, right) for x in inside(things, thing, right)):
            return False
    return True


def own_bars(neighbours):
    """[42]"""
    return sorted((thing, other) for thing in neighbours for other in neighbours
                  if hangs(neighbours, other, thing) and not leans(neighbours, other, neighbours[thing][1]))


def both_brothers(neighbours, left):
    """[42], of all lists of the brothers"""
    lists = [list(listed) for listed in itertools.permutations(brothers(neighbours, left))]
    return [listed for listed in lists if serves_both(neighbours, left, listed)]


def serves_both(neighbours, left, listed):
    if not all(stands_ahead(listed, one, other) for one, other in told(neighbours, left)):
        return False
    for thing, (_, right) in neighbours.items():
        if right is None:
            continue
        way = [thing]
        while neighbours[way[-1]][0] != neighbours[right][0]:
            way.append(neighbours[way[-1]][0])
        for came, onto in zip(way, way[1:]):
            if onto == left and not all(is_clean(neighbours, x, right) for x in inside(listed, came, None)):
                return False
        if neighbours[right][0] == left:
            if not all(is_clean(neighbours, x, right) for x in inside(listed, way[-1], right)):
                return False
    return True


def is_clean(neighbours, brother, thing):
    return all(leans(neighbours, x, thing) for x in stretch(neighbours, brother))


def both_lists(neighbours):
    """All lists of all things that keep the first rule and its mirror."""
    return [x for x in lists_of(neighbours) if is_first_list(neighbours, x) and is_mirror_list(neighbours, x)]


def is_torn(neighbours):
    lists = map(list, itertools.permutations(sorted(neighbours)))
    return not any(is_first_list(neighbours, x) and is_mirror_list(neighbours, x) for x in lists)


def lists_of(neighbours):
    """All lists of all things, ascending."""
    return [list(things) for things in itertools.permutations(sorted(neighbours))]


def within(neighbours, view):
    """The neighbours of a view's things."""
    return {thing: neighbours[thing] for thing in neighbours if thing[1] < view.get(thing[0], 0)}
