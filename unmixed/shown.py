"""The rows that views show: their things less what is struck, and puts and strikes at places of them."""

from unmixed.errors import InvalidMark, InvalidPlace, InvalidWord
from unmixed.forms import is_count, is_word
from unmixed.histories import check_hand, check_history, grown
from unmixed.orders import order_in
from unmixed.pasts import has_mark
from unmixed.things import deeds_by_marks, is_thing
from unmixed.views import check_view, least_view


def struck(history, view):
    """Return the ascending list of the things struck in a view."""
    check_with_view(history, view)
    return sorted(set(list(strikes_in(history, view).values())))


def strikers(history, view, thing):
    """Return the ascending list of the marks of the strikes of a thing in a view."""
    check_seen(history, view, thing)
    strikes = strikes_in(history, view)
    return [mark for mark in strikes if strikes[mark] == thing]


def strikes_in(history, view):
    """Return the dictionary from the marks of a view's strikes, ascending, to the things that they strike."""
    deeds = deeds_by_marks(history)
    return {mark: deeds[mark][1] for mark in deeds if deeds[mark][0] == "strike" and has_mark(view, mark)}


def shown(history, view):
    """Return the list of the things of a view that are not struck, as they stand."""
    gone = struck(history, view)
    return [thing for thing in order_in(history, view) if thing not in gone]


def row(history, view):
    """Return the list of the words of the things that a view shows, as they stand."""
    things = shown(history, view)
    deeds = deeds_by_marks(history)
    return [deeds[thing][1] for thing in things]


def place_shown(history, view, thing):
    """Return how many shown things stand ahead of a thing, shown or struck, in the order of a view."""
    check_seen(history, view, thing)
    listed = order_in(history, view)
    things = shown(history, view)
    return len([other for other in listed[:listed.index(thing)] if other in things])


def thing_shown(history, view, place):
    """Return the shown thing with a position in the row of a view."""
    things = shown(history, view)
    if not is_count(place) or place >= len(things):
        raise InvalidPlace(place)
    return things[place]


def neighbours_at(history, view, place):
    """Return the tuple of the neighbours of a put at a place of the row of a view."""
    things = shown(history, view)
    if not is_count(place) or place > len(things):
        raise InvalidPlace(place)
    # Struck things still stand in the order: what is put goes directly behind the shown one, ahead of them.
    fenced = [None, *order_in(history, view), None]
    left = things[place - 1] if place > 0 else None
    return (left, fenced[fenced.index(left) + 1])


def seen_by(history, hand):
    """Return the view of a hand: its last deed and that one's past."""
    check_history(history)
    check_hand(hand)
    if hand not in history.hands():
        return {}
    return least_view(history, [(hand, len(history.deeds(hand)) - 1)])


def put_at(history, hand, place, word):
    """Return the history with a word more, put by a hand at a place of the row of its view."""
    view = seen_by(history, hand)
    left, right = neighbours_at(history, view, place)
    if not is_word(word):
        raise InvalidWord(word)
    return grown(history, hand, ("put", word, left, right, view))


def strike_at(history, hand, place):
    """Return the history with a strike more, by a hand, of the thing at a position of the row of its view."""
    view = seen_by(history, hand)
    return grown(history, hand, ("strike", thing_shown(history, view, place), view))


def rows_seen(history, hand):
    """Return the list of the rows of the pasts of a hand's deeds and, as the last one, of its view."""
    last = seen_by(history, hand)
    pasts = [deed[-1] for deed in history.deeds(hand)] if last else []
    return [row(history, view) for view in [*pasts, last]]


def who_shows(history, view):
    """Return the dictionary from the hands that have shown things in a view, ascending, to how many."""
    hands = [thing[0] for thing in shown(history, view)]
    return {hand: hands.count(hand) for hand in sorted(set(hands))}


def check_with_view(history, view):
    """Raise the first error of a history and a view of it."""
    check_history(history)
    check_view(history, view)


def check_seen(history, view, thing):
    """Raise the first error of a history, a view of it and a thing of the view."""
    check_with_view(history, view)
    if not is_thing(history, thing) or not has_mark(view, thing):
        raise InvalidMark(thing)
