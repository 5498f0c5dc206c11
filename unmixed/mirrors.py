"""Lists that keep the first rule and its mirror both, and histories that have none."""

from unmixed.arranging import all_laid_out, arranged, laid_out, many_choices
from unmixed.histories import all_pasts, check_history
from unmixed.kin import LEFT, RIGHT, families, leans_on, places_in, stretch_of, told_pairs
from unmixed.orders import wrong_between
from unmixed.pasts import has_mark, is_within, marks_of
from unmixed.things import check_with_left, is_listing, neighbours_in


def is_mirror(history, value):
    """Return whether any object is a mirror list."""
    check_history(history)
    return is_listing(history, value) and keeps_mirror(neighbours_in(history), value)


def keeps_mirror(neighbours, listed):
    """Return whether a list of all things keeps the mirror of the first rule, each thing behind its left neighbour."""
    places = places_in(listed)
    for thing in neighbours:
        left, right = neighbours[thing]
        if left is not None and places[thing] < places[left]:
            return False
        if right is not None:
            let = [other for other in neighbours if leans_on(neighbours, other, right)]
            if wrong_between(listed, thing, right, let, right):
                return False
    return True


def own_bars(history):
    """Return the ascending list of a thing and one that hangs on it without leaning on the thing's right neighbour."""
    check_history(history)
    return bars_of(neighbours_in(history))


def bars_of(neighbours):
    """Return the own bars of things with these neighbours."""
    found = []
    for thing in neighbours:
        right = neighbours[thing][RIGHT]
        if right is not None:
            hanging = stretch_of(neighbours, thing)
            found.extend([(thing, other) for other in hanging if not leans_on(neighbours, other, right)])
    return found


def both_brothers(history, left):
    """Return the ascending list of all lists of the brothers behind a thing, or at the begin, that both lists let."""
    check_with_left(history, left)
    return both_arranged(neighbours_in(history), left)


def both_arranged(neighbours, left):
    """Return the ascending list of the lists of brothers that keep what is told, and clean what has to be."""
    brothers = families(neighbours).get(left, [])
    pairs, bars = told_pairs(neighbours, left), []
    for thing in neighbours:
        right = neighbours[thing][RIGHT]
        if right is not None:
            way = way_up(neighbours, thing)
            soiled = [other for other in brothers if not is_clean(neighbours, other, right)]
            if left in way[1:]:
                came = way[way.index(left) - 1]
                pairs.extend([(other, came) for other in soiled if other != came])
            if left == neighbours[right][LEFT]:
                bars.extend([(way[-1], other, right) for other in soiled if other != right])
    return arranged(brothers, pairs, bars)


def way_up(neighbours, thing):
    """Return the way of a thing whose right neighbour is a thing: up to a brother of that one."""
    goal = neighbours[neighbours[thing][RIGHT]][LEFT]
    way = [thing]
    while neighbours[way[-1]][LEFT] != goal:
        way.append(neighbours[way[-1]][LEFT])
    return way


def is_clean(neighbours, brother, thing):
    """Return whether all of a brother's stretch leans on a thing."""
    return all([leans_on(neighbours, other, thing) for other in stretch_of(neighbours, brother)])


def both_lists(neighbours):
    """Return the dictionary from the left neighbours, None ahead, to the lists of `both_brothers` for each."""
    return {left: both_arranged(neighbours, left) for left in families(neighbours)}


def both_orders(history):
    """Return the ascending list of all both lists."""
    check_history(history)
    neighbours = neighbours_in(history)
    return [] if bars_of(neighbours) else all_laid_out(both_lists(neighbours))


def many_both(history):
    """Return how many both lists there are."""
    check_history(history)
    neighbours = neighbours_in(history)
    return 0 if bars_of(neighbours) else many_choices(both_lists(neighbours))


def any_both(history):
    """Return a both list, None if there is none."""
    check_history(history)
    neighbours = neighbours_in(history)
    if not has_both(neighbours):
        return None
    return laid_out({left: lists[0] for left, lists in both_lists(neighbours).items()})


def is_torn(history):
    """Return whether there is no both list."""
    check_history(history)
    return not has_both(neighbours_in(history))


def torn_at(history):
    """Return the list of the left neighbours, None ahead, at which no list of brothers serves."""
    check_history(history)
    return torn_lefts(neighbours_in(history))


def torn_lefts(neighbours):
    """Return the left neighbours at which no list of brothers serves, None ahead, of things with these neighbours."""
    lists = both_lists(neighbours)
    return [left for left in lists if not lists[left]]


def has_both(neighbours):
    """Return whether there is a both list of things with these neighbours."""
    return not bars_of(neighbours) and not torn_lefts(neighbours)


def is_kept_both(history):
    """Return whether the order is a mirror list itself."""
    check_history(history)
    return keeps_mirror(neighbours_in(history), history.order())


def torn_views(history):
    """Return the list of the views whose parts are torn, while that of no other view within them is."""
    check_history(history)
    neighbours = neighbours_in(history)
    torn = [view for view in all_views(history) if not has_both(neighbours_of_part(neighbours, view))]
    least = [view for view in torn if not any([is_within(other, view) for other in torn if other != view])]
    listed = sorted([list(view.items()) for view in least])
    return [{hand: many for hand, many in items} for items in listed]


def neighbours_of_part(neighbours, view):
    """Return the neighbours of those things that a view has."""
    return {thing: neighbours[thing] for thing in neighbours if has_mark(view, thing)}


def all_views(history):
    """Return the list of all views, hands ascending."""
    pasts = all_pasts(history)
    views = [{}]
    for hand in history.hands():
        most = len(history.deeds(hand))
        views = views + [{**view, hand: count} for view in views for count in range(1, most + 1)]
    return [view for view in views if all([is_within(pasts[mark], view) for mark in marks_of(view)])]
