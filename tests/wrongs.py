"""Objects that are wrong where something is asked for, and how calls are held to raise their errors for them."""

from samples import NO_MARKS, NO_VIEWS, both_deeds, nested
from unmixed.errors import RowError
from unmixed.histories import History

HUGE = 10 ** 29
NO_HISTORIES = [
    None, True, False, 0, 1, "ann", [], (), both_deeds(), {}, {"ann": []}, RowError(), nested(40), History,
]
# What is no view of the history of the samples called "talk".
NO_TALK_VIEWS = [
    *NO_VIEWS, {"bob": 1}, {"ann": 1, "bob": 1}, {"ann": 4}, {"ann": 3, "dan": 1}, {"ann": HUGE}, {"cy": 1},
    {"dan": HUGE}, {"ann": 3, "bob": 3},
]


def no_deeds(history):
    """Marks, and what is none, of no deed of a history."""
    ends = [(hand, len(history.deeds(hand))) for hand in history.hands()]
    return [*NO_MARKS, *ends, ("ann", HUGE), ("zoe", 0), nested(40), ("ann", nested(39)), [("ann", 0)]]


def no_things(history):
    """Marks, and what is none, of no thing of a history; those of strikes among them."""
    marks = [(hand, at) for hand in history.hands() for at in range(len(history.deeds(hand)))]
    return [*no_deeds(history), *[mark for mark in marks if mark not in history.things()]]


def no_lefts(history):
    """Objects that are neither None nor a thing of a history."""
    return [value for value in no_things(history) if value is not None]


def no_listings(history):
    """Objects that are no list of all things of a history, each once; it has at least two."""
    things = history.things()
    found = [value for value in no_deeds(history) if value != things]
    found += [tuple(things), {thing: 1 for thing in things}, things[1:], things[:-1], [*things, things[0]], [things]]
    found += [[*things[1:], things[1]], [*things, ("zoe", 0)], [*things[1:], ("zoe", 0)], [*things, None]]
    found += [[*things[1:], value] for value in no_things(history)]
    found += [[list(thing) for thing in things], [(hand, str(at)) for hand, at in things], RowError(things)]
    for thing in things:
        if thing[1] < 2:
            found.append([(hand, bool(at)) if (hand, at) == thing else (hand, at) for hand, at in things])
    return found


def assert_errors(case, call, good, wrong):
    """Hold a call to raise the error of its first wrong argument, with the very object, whatever stands behind it.

    `good` is a dictionary from the names of the arguments to what passes, `wrong` one from names to an error and what
    has to raise it.
    """
    names = list(good)
    for at, name in enumerate(names):
        if name not in wrong:
            continue
        error, values = wrong[name]
        later = {other: wrong[other][1][0] for other in names[at + 1:] if other in wrong}
        for value in values:
            for behind in [{}, later]:
                passed = {**good, name: value, **behind}
                for told in [lambda: call(**passed), lambda: call(*passed.values())]:
                    assert_error(case, error, value, told)


def assert_error(case, error, value, told):
    with case.assertRaises(RowError, msg=repr(value)) as held:
        told()
    case.assertIs(type(held.exception), error, repr(value))
    case.assertIs(held.exception.value, value)
