"""Views as plain dictionaries from hands to counts: what they have, and how one lies within another."""


def has_mark(view, mark):
    """Return whether a view has the deed of a mark."""
    return mark[1] < view.get(mark[0], 0)


def marks_of(view):
    """Return the ascending list of the marks of a view's deeds."""
    return [(hand, number) for hand in sorted(view) for number in range(view[hand])]


def lacking(view, other):
    """Return the ascending list of the marks of the deeds that the other view has and the first one has not."""
    return [mark for mark in marks_of(other) if not has_mark(view, mark)]


def is_within(view, other):
    """Return whether the other view has all deeds of the first one."""
    return all([view[hand] <= other.get(hand, 0) for hand in view])


def ascending(view):
    """Return a new dictionary of the same view with ascending hands."""
    return {hand: view[hand] for hand in sorted(view)}


def united(one, other):
    """Return the view of the deeds that either of two views has."""
    return {hand: max(one.get(hand, 0), other.get(hand, 0)) for hand in sorted({**one, **other})}


def common(one, other):
    """Return the view of the deeds that both of two views have."""
    return {hand: min(one[hand], other[hand]) for hand in sorted(one) if hand in other}


def in_sequence(pasts):
    """Return the marks of a dictionary from marks to closed pasts, each behind all of its past."""
    # A closed past that has a deed has all of that deed's past and the deed besides, so it is the larger one.
    sized = sorted([(sum(past.values()), mark) for mark, past in pasts.items()])
    return [mark for _, mark in sized]
