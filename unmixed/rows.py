"""What a view of a history shows, for arguments that have been checked."""

from unmixed.walks import things_in


def order_seen(history, view):
    """Return the order of the things of a view."""
    # More deeds never turn two things about: the order of all, the others left out, is that of the view.
    return things_in(view, history.walk.listed)


def gone_in(history, view):
    """Return a dictionary that has the things struck in a view as keys."""
    return {thing: True for (hand, number), thing in history.strikes if number < view.get(hand, 0)}


def things_shown(history, view):
    """Return the list of the things of a view that are not struck, as they stand."""
    gone = gone_in(history, view)
    return [thing for thing in order_seen(history, view) if thing not in gone]


def words_of_things(history, things):
    """Return the list of the words of some things."""
    return [history.by_marks[thing][1] for thing in things]


def row_shown(history, view):
    """Return the list of the words of the things that a view shows."""
    return words_of_things(history, things_shown(history, view))


def thing_behind(history, view, left):
    """Return what stands directly behind a thing, or the row's begin, in the order of a view, None if nothing does."""
    listed = history.walk.listed
    start = 0 if left is None else listed.index(left) + 1
    behind = things_in(view, listed[start:])
    return behind[0] if behind else None
