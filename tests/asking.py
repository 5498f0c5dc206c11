"""All that a history is asked, with arguments that are taken from it, and how what is returned is changed."""

import itertools

from samples import HANDS
from slow import views_of
from unmixed import between, brothers, firsts, folding, histories, lots, mirrors, orders, papers, runs, shown
from unmixed import versions, views
from unmixed.errors import RowError
from unmixed.histories import History

OF_HISTORIES = [
    views.whole, views.sequence, orders.order, firsts.many_first, runs.forward_runs, runs.backward_runs,
    runs.pieces_by_hands, mirrors.own_bars, mirrors.is_kept_both, lots.lots, lots.many_by_lots, lots.asked_in_lots,
    lots.many_set, papers.history_text, History.hands, History.things, History.size,
]
OF_SMALL_ONES = [
    firsts.all_first, mirrors.both_orders, mirrors.many_both, mirrors.any_both, mirrors.is_torn, mirrors.torn_at,
    lots.all_by_lots, mirrors.torn_views,
]
OF_VIEWS = [
    views.is_view, views.heads, views.part, orders.order_in, between.parted_since, shown.struck, shown.shown, shown.row,
    shown.who_shows, versions.by_whom, folding.is_settled, folding.is_foldable, folding.folded,
]
OF_TWO_VIEWS = [
    views.joined, views.shared, views.has_view, versions.kept, versions.changes, versions.lacks, folding.folded_view,
]
OF_THINGS = [
    brothers.left_of, brothers.right_of, brothers.stretch, brothers.led_by, brothers.roots, brothers.brothers_behind,
    brothers.told_ahead, orders.place_of, between.came_between, between.why_between, versions.known_since, lots.lot_of,
    histories.past_of,
]
OF_TWO_THINGS = [brothers.hangs_on, brothers.is_ahead, orders.decided, between.between, histories.has_heard]
OF_LISTINGS = [
    orders.is_order, orders.reasons, firsts.is_first, firsts.choice_of, mirrors.is_mirror, lots.keeps_three,
    lots.dealing_of, runs.mixed_in,
]
OF_HANDS = [shown.seen_by, shown.rows_seen, History.deeds]


def calls_of(history, small=True):
    """The list of tuples of a function and the arguments behind the history."""
    deeds = {hand: history.deeds(hand) for hand in history.hands()}
    seen, things = views_of(deeds)[::3] + [views.whole(history)], history.things()
    listed = orders.order(history)
    found = [(call, ()) for call in OF_HISTORIES]
    if small:
        found += [(call, ()) for call in OF_SMALL_ONES]
        found += [(firsts.brother_orders, (left,)) for left in [None, *things]]
        found += [(mirrors.both_brothers, (left,)) for left in [None, *things]]
    found += [(call, (view,)) for call in OF_VIEWS for view in seen]
    found += [(call, pair) for call in OF_TWO_VIEWS for pair in zip(seen, seen[::-1])]
    found += [(call, (thing,)) for call in OF_THINGS for thing in things]
    found += [(call, pair) for call in OF_TWO_THINGS for pair in itertools.permutations(things[:4], 2)]
    found += [(call, (things,)) for call in OF_LISTINGS for things in [listed, listed[::-1], sorted(listed)]]
    found += [(call, (hand,)) for call in OF_HANDS for hand in [*HANDS, "zoe"]]
    for view in seen:
        found += [(call, (view, place)) for call in [shown.thing_shown, shown.neighbours_at] for place in range(3)]
        found += [(call, (view, thing)) for call in [shown.strikers, shown.place_shown] for thing in things[:3]]
    for hand in [*HANDS[:3], "zoe"]:
        found += [(shown.put_at, (hand, place, "new")) for place in range(3)]
        found += [(shown.strike_at, (hand, place)) for place in range(3)]
        found += [(versions.words_of, (view, hand)) for view in seen[:3]]
    return [*found, (lots.list_by, (lots.lots(history),)), (lots.list_by, ([lot[::-1] for lot in lots.lots(history)],))]


def answered(history, call, passed):
    """What a call returns, with histories told by their deeds, or the error that it raises."""
    try:
        found = call(history, *passed)
    except RowError as error:
        return type(error)
    if isinstance(found, History):
        return [(hand, found.deeds(hand)) for hand in found.hands()]
    return found


def spoil(value):
    """Change each list and each dictionary within what was returned."""
    for member in list(value.values()) if isinstance(value, dict) else value:
        if isinstance(member, (list, tuple, dict)):
            spoil(member)
    if isinstance(value, list):
        value.append("spoilt")
    if isinstance(value, dict):
        value["spoilt"] = "spoilt"


def copy_of(value):
    """A copy of an argument, with new lists and dictionaries, the items of these in their sequence."""
    if isinstance(value, (list, tuple)):
        return type(value)([copy_of(member) for member in value])
    return {key: copy_of(value[key]) for key in value} if isinstance(value, dict) else value
