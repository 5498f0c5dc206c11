"""Histories that the tests share, and objects that are no hands, marks or views."""

import random

from slow import told_order
from unmixed.errors import RowError
from unmixed.histories import History

HANDS = ["ann", "bob", "cy", "dan", "eve"]


def both_deeds():
    return {
        "ann": [("put", "x", None, None, {}), ("put", "y", ("ann", 0), None, {"ann": 1})],
        "bob": [("put", "p", None, None, {}), ("put", "q", ("bob", 0), None, {"bob": 1})],
    }


def talk_deeds():
    return {
        "ann": [
            ("put", "we", None, None, {}),
            ("put", "go", ("ann", 0), None, {"ann": 1}),
            ("put", "up", ("ann", 1), None, {"ann": 2}),
        ],
        "bob": [
            ("put", "not", ("ann", 0), ("ann", 1), {"ann": 2}),
            ("strike", ("ann", 1), {"ann": 2, "bob": 1}),
        ],
        "cy": [("put", "may", ("ann", 0), ("ann", 1), {"ann": 2})],
    }


def four_deeds():
    return {
        "ann": [("put", "a", None, None, {})],
        "bob": [("put", "b", None, None, {})],
        "cy": [("put", "r", None, None, {}), ("put", "x", ("ann", 0), ("cy", 0), {"ann": 1, "cy": 1})],
    }


def five_deeds():
    return {
        "ann": [("put", "a", None, None, {})],
        "bob": [("put", "b", None, None, {})],
        "cy": [("put", "r", None, None, {})],
        "dan": [("put", "x", ("ann", 0), ("cy", 0), {"ann": 1, "cy": 1})],
        "eve": [("put", "y", ("bob", 0), ("cy", 0), {"bob": 1, "cy": 1})],
    }


def lead_deeds():
    """Two things put ahead of a third one."""
    return {
        "ann": [("put", "r", None, None, {}), ("put", "q", None, ("ann", 0), {"ann": 1})],
        "bob": [("put", "s", None, ("ann", 0), {"ann": 1})],
    }


def chain_deeds():
    """Things led over one another, with strikes: u, t, w, q, s, r, as they stand."""
    return {
        "ann": [
            ("put", "r", None, None, {}),
            ("put", "q", None, ("ann", 0), {"ann": 1}),
            ("strike", ("ann", 0), {"ann": 2}),
            ("put", "u", None, ("ann", 1), {"ann": 3}),
        ],
        "bob": [
            ("put", "s", None, ("ann", 0), {"ann": 1}),
            ("strike", ("bob", 0), {"ann": 1, "bob": 1}),
        ],
        "cy": [("put", "t", None, ("ann", 1), {"ann": 2}), ("put", "w", ("cy", 0), ("ann", 1), {"ann": 2, "cy": 1})],
    }


def largest_deeds():
    """Five hands, 24 things and 30 deeds, nearly all of them with all others' earlier deeds in their pasts."""
    return random_deeds(random.Random(5), HANDS, 30, things=24, heard=0.9, strikes=0)


# Neither marks nor hands: wrong in every place where a mark or a hand is asked for.
NO_WORDS = [
    None, True, False, 0, 1, -1, "", "Ann", "a b", "ann1", "abcdefghi", "a\n", "\t", [], ["ann"], (), ("ann",), {},
    {"ann": 1}, ("ann", 0), RowError("ann"), History({}), History(both_deeds()), [[[[]]]], [("ann", 0)],
]
NO_MARKS = [
    None, True, False, 0, 1, -1, "", "ann", [], ["ann", 0], (), ("ann",), ("ann", 0, 0), ("ann", -1), ("ann", True),
    ("ann", False), ("ann", "0"), ("ann", None), ("ann", [0]), ("Ann", 0), ("", 0), ("abcdefghi", 0), (0, "ann"),
    (None, 0), (["ann"], 0), {}, {"ann": 0}, ("ann", {}), RowError(("ann", 0)), History({}), (("ann", 0),),
]
NO_VIEWS = [
    None, True, 0, 1, "", "ann", [], ["ann"], (), ("ann", 1), [("ann", 1)], {"ann": 0}, {"ann": -1}, {"ann": True},
    {"ann": None}, {"ann": "1"}, {"ann": [1]}, {"Ann": 1}, {"": 1}, {"abcdefghi": 1}, {None: 1}, {True: 1}, {1: 1},
    {("ann", 1): 1}, {"ann": 1, "bob": 0}, RowError({}), History({}), {RowError(): 1},
]


def nested(depth):
    """A list within a list, and on."""
    value = []
    for _ in range(depth):
        value = [value]
    return value


def random_deeds(chance, hands, many, things=30, heard=0.5, strikes=0.2):
    """What hands do that put and strike at will and hear of one another now and then, told by the slow words below."""
    deeds, views, order, neighbours = {}, {hand: {} for hand in hands}, [], {}
    for _ in range(many):
        hand = chance.choice(hands)
        for other in hands:
            if chance.random() < heard:
                for owner, count in views[other].items():
                    views[hand][owner] = max(views[hand].get(owner, 0), count)
        past = dict(views[hand])
        seen = [thing for thing in order if thing[1] < past.get(thing[0], 0)]
        mark = (hand, len(deeds.get(hand, [])))
        if seen and (len(order) >= things or chance.random() < strikes):
            deed = ("strike", chance.choice(seen), past)
        elif len(order) >= things:
            continue
        else:
            at = chance.randrange(len(seen) + 1)
            deed = ("put", chance.choice(["x", "y", "word"]), *([None, *seen, None][at:at + 2]), past)
            neighbours[mark] = deed[2:4]
            order = told_order(neighbours)
        deeds.setdefault(hand, []).append(deed)
        views[hand][hand] = mark[1] + 1
    return deeds


def wide_deeds(chance, hands, many, strikes=0.1, ended=True):
    """What hands do each of which hears of few deeds: some put apart first, then they put between two that they saw.

    They seldom put at the row's end, unless `ended`.
    """
    deeds, order, neighbours = {}, [], {}
    for at in range(many):
        hand = min(hands, key=lambda other: len(deeds.get(other, [])) + chance.random() * 1.5)
        number = len(deeds.get(hand, []))
        heard = [(hand, number - 1)] if number else []
        if at >= min(3, len(hands)):
            heard += chance.sample(sorted(neighbours), min(len(neighbours), chance.choice([1, 1, 2])))
        past = {}
        for owner, last in heard:
            for other, count in [(owner, last + 1), *deeds[owner][last][-1].items()]:
                past[other] = max(past.get(other, 0), count)
        seen = [thing for thing in order if thing[1] < past.get(thing[0], 0)]
        if seen and chance.random() < strikes:
            deed = ("strike", chance.choice(seen), past)
        else:
            fenced = [None, *seen, None]
            places = list(zip(fenced, fenced[1:]))
            # Most often where the right neighbour is no brother, so that its place decides.
            far = [(left, right) for left, right in places if left and right and neighbours[right][0] != left]
            far += [(left, right) for left, right in places if left and not right and ended]
            deed = ("put", chance.choice(["x", "y", "word"]), *chance.choice(places + 3 * far), past)
            neighbours[(hand, number)] = deed[2:4]
            order = told_order(neighbours)
        deeds.setdefault(hand, []).append(deed)
    return deeds


def small_deeds(seed, many, size, hands=5):
    """The deeds of small histories of some hands that saw little or much, strikes among them."""
    chance = random.Random(seed)
    found = [{}]
    while len(found) < many:
        named = HANDS[:chance.randint(min(2, hands), hands)]
        if chance.random() < 0.5:
            found.append(wide_deeds(chance, named, chance.randint(1, size)))
        else:
            heard = chance.choice([0.05, 0.3, 0.5, 0.9])
            found.append(random_deeds(chance, named, chance.randint(1, size + 2), things=size, heard=heard))
    return found


def typed_deeds(chance, hands, many, heard=0.3, strikes=0.15):
    """What hands do that mostly go on typing, forward or backward, where they put last."""
    deeds, views, order, neighbours, last = {}, {hand: {} for hand in hands}, [], {}, {}
    ways = {hand: chance.choice([0, 1]) for hand in hands}
    for _ in range(many):
        hand, other = chance.choice(hands), chance.choice(hands)
        if chance.random() < heard:
            for owner, count in views[other].items():
                views[hand][owner] = max(views[hand].get(owner, 0), count)
        past = dict(views[hand])
        seen = [thing for thing in order if thing[1] < past.get(thing[0], 0)]
        mark = (hand, len(deeds.get(hand, [])))
        if seen and chance.random() < strikes:
            deed = ("strike", chance.choice(seen), past)
        else:
            if chance.random() < 0.2:
                ways[hand] = chance.choice([0, 1])
            at = chance.randrange(len(seen) + 1)
            if hand in last and chance.random() < 0.75:
                at = seen.index(last[hand]) + 1 - ways[hand]
            deed = ("put", chance.choice(["x", "y", "word"]), *([None, *seen, None][at:at + 2]), past)
            neighbours[mark], last[hand] = deed[2:4], mark
            order = told_order(neighbours)
        deeds.setdefault(hand, []).append(deed)
        views[hand][hand] = mark[1] + 1
    return deeds


def many_typed(seed, many, size, hands=5):
    chance = random.Random(seed)
    return [typed_deeds(chance, HANDS[:chance.randint(2, hands)], chance.randint(1, size)) for _ in range(many)]


def back_deeds():
    return {
        "ann": [
            ("put", "c", None, None, {}), ("put", "b", None, ("ann", 0), {"ann": 1}),
            ("put", "a", None, ("ann", 1), {"ann": 2}),
        ],
        "bob": [("put", "z", None, None, {}), ("put", "y", None, ("bob", 0), {"bob": 1})],
    }


def torn_deeds():
    """The document's example of a torn history, of three hands."""
    return {
        "ann": [("put", "a", None, None, {}), ("put", "x", ("ann", 0), ("cy", 0), {"ann": 1, "cy": 1})],
        "bob": [("put", "b", None, None, {}), ("put", "y", ("bob", 0), ("cy", 0), {"bob": 1, "cy": 1})],
        "cy": [("put", "r", None, None, {})],
    }


def late_deeds():
    """The document's example of own bars."""
    return {
        "ann": [("put", "a", None, None, {})],
        "bob": [("put", "b", None, None, {})],
        "cy": [
            ("put", "r", None, None, {}),
            ("put", "x", ("ann", 0), ("cy", 0), {"ann": 1, "cy": 1}),
            ("put", "z", ("cy", 1), ("bob", 0), {"ann": 1, "bob": 1, "cy": 2}),
        ],
    }


def settling_deeds(chance, hands, before, after, strikes=0.3):
    """Deeds of hands, then all hear all, then deeds of hands again: with the view at which all had heard all.

    What comes behind goes to places of rows most often, and seldom refers to what was struck by then.
    """
    deeds = random_deeds(chance, hands, before, heard=0.4, strikes=strikes)
    settled = {hand: len(deeds[hand]) for hand in sorted(deeds)}
    neighbours, views = {}, {hand: dict(settled) for hand in hands}
    for mark in sorted(((hand, at) for hand in deeds for at in range(len(deeds[hand]))),
                       key=lambda mark: (sum(deeds[mark[0]][mark[1]][-1].values()), mark)):
        if deeds[mark[0]][mark[1]][0] == "put":
            neighbours[mark] = deeds[mark[0]][mark[1]][2:4]
    for _ in range(after):
        hand, other = chance.choice(hands), chance.choice(hands)
        if chance.random() < 0.5:
            for owner, count in views[other].items():
                views[hand][owner] = max(views[hand].get(owner, 0), count)
        past = dict(views[hand])
        gone = [deeds[owner][at][1] for owner in past for at in range(past[owner]) if deeds[owner][at][0] == "strike"]
        order = [thing for thing in told_order(neighbours) if thing[1] < past.get(thing[0], 0)]
        left = [thing for thing in order if thing not in gone or chance.random() < 0.05]
        mark = (hand, len(deeds.get(hand, [])))
        if left and chance.random() < strikes:
            deed = ("strike", chance.choice(left), past)
        else:
            behind = chance.choice([None, *left])
            fenced = [None, *order, None]
            deed = ("put", chance.choice(["x", "y", "word"]), behind, fenced[fenced.index(behind) + 1], past)
            neighbours[mark] = deed[2:4]
        deeds.setdefault(hand, []).append(deed)
        views[hand][hand] = mark[1] + 1
    return deeds, settled
