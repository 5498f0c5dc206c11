"""Lists that keep the first rule and its mirror both, and histories that have none."""

from unmixed.arranging import all_laid_out, arranged, laid_out, many_choices
from unmixed.histories import check_history
from unmixed.judging import has_last_pasts
from unmixed.kin import LEFT, RIGHT, families, lean_way, places_in, stretches, told_by_lefts
from unmixed.pasts import has_mark, is_within
from unmixed.things import check_with_left, is_listing


def is_mirror(history, value):
    """Return whether any object is a mirror list."""
    check_history(history)
    return is_listing(history, value) and keeps_mirror(history.neighbours, value)


def keeps_mirror(neighbours, listed):
    """Return whether a list of all things keeps the mirror of the first rule, each thing behind its left neighbour."""
    places = places_in(listed)
    leans = leaning(neighbours)
    for thing in neighbours:
        left, right = neighbours[thing]
        if left is not None and places[thing] < places[left] or places[right] < places[thing]:
            return False
        if right is not None:
            inside = listed[places[thing] + 1:places[right]]
            if not all([right in leans[other] for other in inside]):
                return False
    return True


def leaning(neighbours):
    """Return the dictionary from the things to the lists of all things on which each leans."""
    return {thing: lean_way(neighbours, thing)[1:] for thing in neighbours}


def own_bars(history):
    """Return the ascending list of a thing and one that hangs on it without leaning on the thing's right neighbour."""
    check_history(history)
    return bars_of(history.neighbours)


def bars_of(neighbours):
    """Return the own bars of things with these neighbours."""
    leans, hanging = leaning(neighbours), stretches(neighbours)
    found = []
    for thing in neighbours:
        right = neighbours[thing][RIGHT]
        if right is not None:
            found.extend([(thing, other) for other in hanging[thing] if right not in leans[other]])
    return found


def both_brothers(history, left):
    """Return the ascending list of all lists of the brothers behind a thing, or at the begin, that both lists let."""
    check_with_left(history, left)
    pairs, bars = both_rules(history.neighbours)
    brothers = families(history.neighbours)
    return arranged(brothers.get(left, []), pairs.get(left, []), bars.get(left, []))


def both_rules(neighbours):
    """Return what brothers keep where both lists let them: pairs and bars of `arranged`, by the left neighbours.

    They keep what is told, and those that are not clean keep out from where only clean ones stand.
    """
    leans, hanging = leaning(neighbours), stretches(neighbours)
    brothers = families(neighbours)
    pairs, bars = told_by_lefts(neighbours), {}
    for thing in neighbours:
        right = neighbours[thing][RIGHT]
        if right is not None:
            clean = {other: all([right in leans[x] for x in hanging[other]]) for other in neighbours}
            way = way_up(neighbours, thing)
            for came, onto in zip(way, way[1:]):
                soiled = [other for other in brothers[onto] if other != came and not clean[other]]
                pairs.setdefault(onto, []).extend([(other, came) for other in soiled])
            left = neighbours[right][LEFT]
            soiled = [other for other in brothers[left] if other != right and not clean[other]]
            bars.setdefault(left, []).extend([(way[-1], other, right) for other in soiled])
    return pairs, bars


def way_up(neighbours, thing):
    """Return the way of a thing whose right neighbour is a thing: up to a brother of that one."""
    goal = neighbours[neighbours[thing][RIGHT]][LEFT]
    way = [thing]
    while neighbours[way[-1]][LEFT] != goal:
        way.append(neighbours[way[-1]][LEFT])
    return way


def both_lists(neighbours):
    """Return the dictionary from the left neighbours, None ahead, to the lists of `both_brothers` for each."""
    pairs, bars = both_rules(neighbours)
    brothers = families(neighbours)
    return {left: arranged(brothers[left], pairs.get(left, []), bars.get(left, [])) for left in brothers}


def both_orders(history):
    """Return the ascending list of all both lists."""
    check_history(history)
    neighbours = history.neighbours
    return [] if bars_of(neighbours) else all_laid_out(both_lists(neighbours))


def many_both(history):
    """Return how many both lists there are."""
    check_history(history)
    neighbours = history.neighbours
    return 0 if bars_of(neighbours) else many_choices(both_lists(neighbours))


def any_both(history):
    """Return a both list, None if there is none."""
    check_history(history)
    lists = both_lists(history.neighbours)
    if bars_of(history.neighbours) or not all([lists[left] for left in lists]):
        return None
    return laid_out({left: lists[left][0] for left in lists})


def is_torn(history):
    """Return whether there is no both list."""
    check_history(history)
    return not has_both(history.neighbours)


def torn_at(history):
    """Return the list of the left neighbours, None ahead, at which no list of brothers serves."""
    check_history(history)
    return torn_lefts(history.neighbours)


def torn_lefts(neighbours):
    """Return the left neighbours at which no list of brothers serves, None ahead, of things with these neighbours."""
    lists = both_lists(neighbours)
    return [left for left in lists if not lists[left]]


def has_both(neighbours):
    """Return whether there is a both list of things with these neighbours."""
    return not bars_of(neighbours) and not torn_lefts(neighbours)


def is_kept_both(history):
    """Return whether the order is a mirror list itself."""
    check_history(history)
    return keeps_mirror(history.neighbours, history.walk.listed)


def torn_views(history):
    """Return the list of the views whose parts are torn, while that of no other view within them is."""
    check_history(history)
    # What is within a view of a both list is one of the view's part: so no part of what is not torn is torn.
    if has_both(history.neighbours):
        return []
    least = []
    for view in all_views(history):
        if not any([is_within(other, view) for other in least]):
            if not has_both(neighbours_of_part(history.neighbours, view)):
                least.append(view)
    listed = sorted([list(view.items()) for view in least])
    return [{hand: many for hand, many in items} for items in listed]


def neighbours_of_part(neighbours, view):
    """Return the neighbours of those things that a view has."""
    return {thing: neighbours[thing] for thing in neighbours if has_mark(view, thing)}


def all_views(history):
    """Return the list of all views, hands ascending, each behind those within it."""
    views = [{}]
    for hand in history.hands():
        most = history.counts[hand]
        views = views + [{**view, hand: count} for view in views for count in range(1, most + 1)]
    return [view for view in views if has_last_pasts(history.by_hands, view)]
