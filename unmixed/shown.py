"""The rows that views show: their things less what is struck, and puts and strikes at places of them."""

from unmixed.errors import InvalidMark, InvalidPlace, InvalidWord
from unmixed.forms import is_count, is_word
from unmixed.histories import check_hand, check_history, with_deed
from unmixed.pasts import ascending, has_mark
from unmixed.rows import gone_in, order_seen, row_shown, thing_behind, things_shown
from unmixed.things import is_thing
from unmixed.views import check_with_view


def struck(history, view):
    """Return the ascending list of the things struck in a view."""
    check_with_view(history, view)
    return sorted(gone_in(history, view))


def strikers(history, view, thing):
    """Return the ascending list of the marks of the strikes of a thing in a view."""
    check_seen(history, view, thing)
    return [mark for mark, other in history.strikes if other == thing and has_mark(view, mark)]


def shown(history, view):
    """Return the list of the things of a view that are not struck, as they stand."""
    check_with_view(history, view)
    return things_shown(history, view)


def row(history, view):
    """Return the list of the words of the things that a view shows, as they stand."""
    check_with_view(history, view)
    return row_shown(history, view)


def place_shown(history, view, thing):
    """Return how many shown things stand ahead of a thing, shown or struck, in the order of a view."""
    check_seen(history, view, thing)
    listed = order_seen(history, view)
    gone = gone_in(history, view)
    return len([other for other in listed[:listed.index(thing)] if other not in gone])


def thing_shown(history, view, place):
    """Return the shown thing with a position in the row of a view."""
    check_with_view(history, view)
    return thing_at(history, view, place)


def thing_at(history, view, place):
    """Return the shown thing with a position; raise InvalidPlace for what is none."""
    things = things_shown(history, view)
    if not is_count(place) or place >= len(things):
        raise InvalidPlace(place)
    return things[place]


def neighbours_at(history, view, place):
    """Return the tuple of the neighbours of a put at a place of the row of a view."""
    check_with_view(history, view)
    return neighbours_for(history, view, place)


def neighbours_for(history, view, place):
    """Return the neighbours of a put at a place; raise InvalidPlace for what is none."""
    things = things_shown(history, view)
    if not is_count(place) or place > len(things):
        raise InvalidPlace(place)
    # Struck things still stand in the order: what is put goes directly behind the shown one, ahead of them.
    left = things[place - 1] if place > 0 else None
    return (left, thing_behind(history, view, left))


def seen_by(history, hand):
    """Return the view of a hand: its last deed and that one's past."""
    check_history(history)
    check_hand(hand)
    if hand not in history.by_hands:
        return {}
    return ascending({**history.by_hands[hand][-1][-1], hand: history.counts[hand]})


def put_at(history, hand, place, word):
    """Return the history with a word more, put by a hand at a place of the row of its view."""
    view = seen_by(history, hand)
    left, right = neighbours_for(history, view, place)
    if not is_word(word):
        raise InvalidWord(word)
    return with_deed(history, hand, ("put", word, left, right, view))


def strike_at(history, hand, place):
    """Return the history with a strike more, by a hand, of the thing at a position of the row of its view."""
    view = seen_by(history, hand)
    return with_deed(history, hand, ("strike", thing_at(history, view, place), view))


def rows_seen(history, hand):
    """Return the list of the rows of the pasts of a hand's deeds and, as the last one, of its view."""
    last = seen_by(history, hand)
    pasts = [deed[-1] for deed in history.by_hands.get(hand, [])]
    return [row_shown(history, view) for view in [*pasts, last]]


def who_shows(history, view):
    """Return the dictionary from the hands that have shown things in a view, ascending, to how many."""
    hands = [thing[0] for thing in shown(history, view)]
    return {hand: hands.count(hand) for hand in sorted(set(hands))}


def check_seen(history, view, thing):
    """Raise the first error of a history, a view of it and a thing of the view."""
    check_with_view(history, view)
    if not is_thing(history, thing) or not has_mark(view, thing):
        raise InvalidMark(thing)
