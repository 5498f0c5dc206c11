"""What stands between things in the order, and by what it came there."""

from unmixed.orders import decided_in, order_in
from unmixed.things import check_two_things, check_with_thing


def between(history, one, other):
    """Return the list of the things that stand between two things, whichever of them comes first."""
    check_two_things(history, one, other)
    listed = history.walk.listed
    start, end = sorted([listed.index(one), listed.index(other)])
    return listed[start + 1:end]


def came_between(history, thing):
    """Return what stands between a thing's left neighbour and the thing, and between it and its right neighbour."""
    check_with_thing(history, thing)
    left, right = history.neighbours[thing]
    listed = history.walk.listed
    return (inside(listed, left, thing), inside(listed, thing, right))


def inside(listed, first, last):
    """Return what stands between two things of a list; the first may be None for its begin, the last for its end."""
    start = 0 if first is None else listed.index(first) + 1
    end = len(listed) if last is None else listed.index(last)
    return listed[start:end]


def why_between(history, thing):
    """Return, for each list of `came_between`, the dictionary from what decides of the thing and a member to these."""
    ahead, behind = came_between(history, thing)
    return (by_words(history, thing, ahead), by_words(history, thing, behind))


def by_words(history, thing, others):
    """Return the dictionary from the words that decide of a thing and others, ascending, to these others."""
    words = {}
    for other in others:
        word, _, _ = decided_in(history, thing, other)
        words.setdefault(word, []).append(other)
    return {word: words[word] for word in sorted(words)}


def parted_since(history, view):
    """Return the neighbours in the order of a view between which things of the whole history stand, with how many."""
    fenced = [None, *order_in(history, view), None]
    counted = [(one, other, len(inside(history.walk.listed, one, other))) for one, other in zip(fenced, fenced[1:])]
    return [(one, other, many) for one, other, many in counted if many > 0]
