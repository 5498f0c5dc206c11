"""The walk that tells the one order of things put between neighbours."""

from unmixed.kin import is_put_ahead, places_in


def walked(neighbours, known):
    """Return the order of the things of a dictionary from things to tuples of left and right neighbour.

    `known` is a list in which at least all right neighbours stand, as they do in that order.
    """
    roots, leads = brothers_sorted(neighbours, known)
    order = []
    # A thing waits twice: first for what was put ahead of it, then, led, for its own place.
    waiting = [(root, False) for root in reversed(roots.get(None, []))]
    while waiting:
        thing, is_led = waiting.pop()
        if is_led:
            order.append(thing)
            waiting.extend([(root, False) for root in reversed(roots.get(thing, []))])
        else:
            waiting.append((thing, True))
            waiting.extend([(lead, False) for lead in reversed(leads.get(thing, []))])
    return order


def brothers_sorted(neighbours, known):
    """Return the roots behind each left neighbour and the things put ahead of each thing, as the walk takes them."""
    places = places_in(known)
    ranked = {}
    leads = {}
    for thing in sorted(neighbours):
        left, right = neighbours[thing]
        if is_put_ahead(neighbours, thing):
            leads.setdefault(right, []).append(thing)
        else:
            # The later the right neighbour, the sooner the thing comes.
            ranked.setdefault(left, []).append((-places[right], thing))
    roots = {left: [thing for _, thing in sorted(ranked[left])] for left in ranked}
    return roots, leads
