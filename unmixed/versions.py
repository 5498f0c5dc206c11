"""Versions of the row: what two views both show, how the row of one comes of the other's, and who has what."""

from unmixed.errors import InvalidRows, InvalidSteps
from unmixed.forms import is_count, is_word_list
from unmixed.histories import check_hand
from unmixed.pasts import has_mark, lacking
from unmixed.rows import things_shown
from unmixed.things import check_with_thing
from unmixed.views import check_two_views, check_with_view


def kept(history, one, other):
    """Return the list of the things that two views both show, as they stand."""
    check_two_views(history, one, other)
    others = {thing: True for thing in things_shown(history, other)}
    return [thing for thing in things_shown(history, one) if thing in others]


def changes(history, one, other):
    """Return how the row of the other view comes of that of the one: a list of places, words out and words in."""
    check_two_views(history, one, other)
    # The row's end bounds a piece as what is kept does.
    ones = {thing: True for thing in [*things_shown(history, one), None]}
    others = {thing: True for thing in [*things_shown(history, other), None]}
    steps = []
    place, out, into = 0, [], []
    for thing in [*history.walk.listed, None]:
        if thing in ones and thing in others:
            if out or into:
                steps.append((place, out, into))
            place, out, into = place + len(out) + 1, [], []
        elif thing in ones:
            out.append(history.by_marks[thing][1])
        elif thing in others:
            into.append(history.by_marks[thing][1])
    return steps


def rewritten(words, steps):
    """Return the row that comes of a row by such a list."""
    if not is_word_list(words):
        raise InvalidRows(words)
    if not are_steps(words, steps):
        raise InvalidSteps(steps)
    row = []
    done = 0
    for place, out, into in steps:
        row = row + words[done:place] + into
        done = place + len(out)
    return row + words[done:]


def are_steps(words, value):
    """Return whether any object is a list of changes of a row whose pieces are apart and stand there as told."""
    if not isinstance(value, list):
        return False
    least = 0
    for step in value:
        if not has_step_form(step):
            return False
        place, out, _ = step
        end = place + len(out)
        if place < least or end > len(words) or words[place:end] != out:
            return False
        least = end + 1
    return True


def has_step_form(value):
    """Return whether any object is a tuple of a count and two lists of words, not both empty."""
    if not isinstance(value, tuple) or len(value) != 3:
        return False
    place, out, into = value
    return is_count(place) and is_word_list(out) and is_word_list(into) and len(out) + len(into) > 0


def by_whom(history, one):
    """Return the list of the tuples of the word and the hand of each thing that a view shows, as they stand."""
    check_with_view(history, one)
    return [(history.by_marks[thing][1], thing[0]) for thing in things_shown(history, one)]


def known_since(history, thing):
    """Return the dictionary from the hands that ever have a thing to the number of their first deed that has it."""
    check_with_thing(history, thing)
    since = {}
    for mark, deed in history.by_marks.items():
        if mark == thing or has_mark(deed[-1], thing):
            since.setdefault(mark[0], mark[1])
    return since


def lacks(history, one, other):
    """Return the ascending list of the marks of the deeds that the other view has and the one has not."""
    check_two_views(history, one, other)
    return lacking(one, other)


def words_of(history, one, hand):
    """Return the list of the words of a hand's things that a view shows, as they stand."""
    check_with_view(history, one)
    check_hand(hand)
    return [history.by_marks[thing][1] for thing in things_shown(history, one) if thing[0] == hand]
