"""The words of the document, told slowly and apart from the program, which is held against them."""

import itertools


def told_order(neighbours):
    """The walk of [28], word by word, from things to tuples of their neighbours; positions come of the walk itself."""
    def left_of(thing):
        return neighbours[thing][0]

    def is_root(thing):
        right = neighbours[thing][1]
        return right is None or left_of(right) != left_of(thing)

    def way(thing):
        """The thing and all on which it hangs, the outermost first."""
        return ([] if left_of(thing) is None else way(left_of(thing))) + [thing]

    def lead_way(thing):
        """The thing and all brothers that it leads, the last one led first."""
        return ([] if is_root(thing) else lead_way(neighbours[thing][1])) + [thing]

    def is_first(one, other):
        if one is None or other is None:
            return other is None
        ones, others = way(one), way(other)
        while ones and others and ones[0] == others[0]:
            ones, others = ones[1:], others[1:]
        if not ones or not others:
            return not ones
        return is_first_brother(ones[0], others[0])

    def is_first_brother(one, other):
        ones, others = lead_way(one), lead_way(other)
        while ones and others and ones[0] == others[0]:
            ones, others = ones[1:], others[1:]
        if not ones or not others:
            return not others
        one, other = ones[0], others[0]
        if neighbours[one][1] == neighbours[other][1]:
            return one < other
        return is_first(neighbours[other][1], neighbours[one][1])

    order = []
    for thing in neighbours:
        order.insert(sum(is_first(other, thing) for other in order), thing)
    return order


def keeps_rules(neighbours, things):
    """Return whether a list of all things keeps the rules F, G, H and T of [23]."""
    place = {thing: at for at, thing in enumerate(things)}
    place[None] = len(things)

    def hangs_on(one, other):
        return one is not None and (neighbours[one][0] == other or hangs_on(neighbours[one][0], other))

    def is_led(thing):
        right = neighbours[thing][1]
        return right is not None and neighbours[right][0] == neighbours[thing][0]

    def leads(one, other):
        return is_led(one) and (neighbours[one][1] == other or leads(neighbours[one][1], other))

    for thing, (left, right) in neighbours.items():
        if left is not None:
            if place[left] > place[thing]:
                return False
            if not all(hangs_on(other, left) for other in things[place[left] + 1:place[thing]]):
                return False
        if is_led(thing):
            if place[thing] > place[right]:
                return False
            leaders = [other for other in things if leads(other, right)]
            for other in things[place[thing] + 1:place[right]]:
                if other not in leaders and not any(hangs_on(other, leader) for leader in leaders):
                    return False
    for one, other in itertools.permutations(things, 2):
        if neighbours[one][0] != neighbours[other][0] or place[one] < place[other]:
            continue
        if neighbours[one][1] == neighbours[other][1]:
            if one < other:
                return False
        elif not is_led(one) and not is_led(other) and place[neighbours[one][1]] > place[neighbours[other][1]]:
            return False
    return True


def only_order(neighbours):
    """The one list of all things that keeps the four rules, found among all lists."""
    found = [list(things) for things in itertools.permutations(sorted(neighbours)) if keeps_rules(neighbours, things)]
    if len(found) != 1:
        raise AssertionError(f"{len(found)} lists of {neighbours} keep the rules")
    return found[0]


def neighbours_of(deeds):
    """The dictionary from things to their neighbours, each behind all of its past."""
    marks = [(sum(deed[-1].values()), (hand, at)) for hand in deeds for at, deed in enumerate(deeds[hand])]
    told = {mark: deeds[mark[0]][mark[1]] for _, mark in sorted(marks)}
    return {mark: deed[2:4] for mark, deed in told.items() if deed[0] == "put"}


def views_of(deeds):
    """All dictionaries from hands to counts that have, with each deed, all of its past."""
    hands = sorted(deeds)
    found = []
    for counts in itertools.product(*[range(len(deeds[hand]) + 1) for hand in hands]):
        view = {hand: count for hand, count in zip(hands, counts) if count}
        if is_closed(deeds, view):
            found.append(view)
    return found


def is_closed(deeds, view):
    return all(deeds[hand][at][-1].get(other, 0) <= view.get(other, 0)
               for hand in view for at in range(view[hand]) for other in deeds)


def slow_first_wrong(deeds):
    """[12] word by word, of what has the form."""
    marks = [(hand, at) for hand in sorted(deeds) for at in range(len(deeds[hand]))]
    past = {mark: deeds[mark[0]][mark[1]][-1] for mark in marks}
    for mark in marks:
        if past[mark].get(mark[0], 0) != mark[1]:
            return ("own", mark)
    for mark in marks:
        if any(hand not in deeds or len(deeds[hand]) < count for hand, count in past[mark].items()):
            return ("there", mark)
    for mark in marks:
        if not is_closed(deeds, past[mark]):
            return ("closed", mark)

    def inside(mark):
        return [other for other in marks if other[1] < past[mark].get(other[0], 0)]

    def is_met(mark):
        deed = deeds[mark[0]][mark[1]]
        seen = [other for other in inside(mark) if deeds[other[0]][other[1]][0] == "put"]
        if deed[0] == "strike":
            return deed[1] in seen
        ranked = sorted(seen, key=lambda other: (len(inside(other)), other))
        order = told_order({other: deeds[other[0]][other[1]][2:4] for other in ranked})
        if deed[2] is None and deed[3] is None:
            return not order
        if deed[2] is None:
            return order[:1] == [deed[3]]
        if deed[3] is None:
            return order[-1:] == [deed[2]]
        return deed[2] in order and deed[3] in order and order.index(deed[2]) + 1 == order.index(deed[3])

    met = {}
    for mark in sorted(marks, key=lambda other: (len(inside(other)), other)):
        met[mark] = None if any(met[other] is not True for other in inside(mark)) else is_met(mark)
    wrong = [mark for mark in marks if met[mark] is False]
    if not wrong:
        return None
    return ("beside" if deeds[wrong[0][0]][wrong[0][1]][0] == "put" else "struck", wrong[0])
