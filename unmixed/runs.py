"""Runs that one hand typed forward or backward, and what stands within them."""

from unmixed.errors import InvalidRun, Refused
from unmixed.histories import check_history
from unmixed.kin import LEFT, RIGHT, is_put_ahead, places_in
from unmixed.things import is_thing


def forward_runs(history):
    """Return the ascending list of all forward runs."""
    check_history(history)
    return runs_by(history.neighbours, goes_forward)


def backward_runs(history):
    """Return the ascending list of all backward runs."""
    check_history(history)
    return runs_by(history.neighbours, goes_backward)


def goes_forward(neighbours, elder, younger):
    """Return whether the younger of two things that a hand put was put directly behind the elder."""
    return neighbours[younger][LEFT] == elder


def goes_backward(neighbours, elder, younger):
    """Return whether the younger of two things that a hand put was put ahead of the elder, its brother."""
    return is_put_ahead(neighbours, younger) and neighbours[younger][RIGHT] == elder


def runs_by(neighbours, goes_on):
    """Return the ascending list of the longest lists, of two things or more, in which a hand went on from each."""
    runs = []
    for thing in neighbours:
        if runs and runs[-1][-1][0] == thing[0] and goes_on(neighbours, runs[-1][-1], thing):
            runs[-1].append(thing)
        else:
            runs.append([thing])
    return [run for run in runs if len(run) > 1]


def mixed_in(history, run):
    """Return the list of the things that stand between two of a list and are not in it."""
    check_history(history)
    check_run(history, run)
    listed = history.walk.listed
    start, end = ends_of(listed, run)
    return [thing for thing in listed[start:end] if thing not in run]


def are_apart(history, one, other):
    """Return whether one of two lists, whichever, stands wholly ahead of the other."""
    check_history(history)
    check_run(history, one)
    check_run(history, other)
    if any([thing in other for thing in one]):
        raise Refused(other)
    listed = history.walk.listed
    start, end = ends_of(listed, one)
    other_start, other_end = ends_of(listed, other)
    return end < other_start or other_end < start


def ends_of(listed, run):
    """Return the positions of the first and the last of some things in a list."""
    places = places_in(listed)
    found = [places[thing] for thing in run]
    return min(found), max(found)


def pieces_by_hands(history):
    """Return the list of the tuples of a hand and things for the longest pieces of the order that are one hand's."""
    check_history(history)
    pieces = []
    for thing in history.walk.listed:
        if pieces and pieces[-1][0] == thing[0]:
            pieces[-1][1].append(thing)
        else:
            pieces.append((thing[0], [thing]))
    return pieces


def check_run(history, run):
    """Raise InvalidRun for what is no list, not empty, of unlike things of a history."""
    if not isinstance(run, list) or not run or not all([is_thing(history, thing) for thing in run]):
        raise InvalidRun(run)
    if len(set(run)) < len(run):
        raise InvalidRun(run)
