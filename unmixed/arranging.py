"""Lists of brothers that keep some rules, and the lists of all things that come of one such list at each place."""


def arranged(things, pairs, bars):
    """Return the ascending list of all lists of ascending things, each once, that keep pairs and bars.

    The first of each pair stands ahead of its last; the middle one of each bar never stands between the two others.
    """
    if len(things) < 2:
        return [list(things)]
    lists = [[]]
    for _ in things:
        lists = [[*begun, thing] for begun in lists for thing in things if may_follow(begun, thing, pairs, bars)]
    return lists


def may_follow(begun, thing, pairs, bars):
    """Return whether a thing may come next behind the begin of a list."""
    if thing in begun or not all([one in begun for one, other in pairs if other == thing]):
        return False
    return not any([first in begun and last not in begun for first, middle, last in bars if middle == thing])


def laid_out(choice):
    """Return the list in which the brothers behind each left neighbour stand as told, each with all that hang on it."""
    listed = []
    waiting = choice.get(None, [])[::-1]
    while waiting:
        thing = waiting.pop()
        listed.append(thing)
        waiting.extend(choice.get(thing, [])[::-1])
    return listed


def many_choices(lists):
    """Return how many choices of one list for each left neighbour there are, of a dictionary to the lists for each."""
    many = 1
    for left in lists:
        many = many * len(lists[left])
    return many


def all_laid_out(lists):
    """Return the ascending list of the lists of all things by all such choices."""
    lefts = list(lists)
    choices = [[]]
    for left in lefts:
        choices = [[*begun, listed] for begun in choices for listed in lists[left]]
    return sorted([laid_out(choice_by(lefts, choice)) for choice in choices])


def choice_by(lefts, lists):
    """Return the dictionary from left neighbours to lists, given one by one."""
    return {left: listed for left, listed in zip(lefts, lists)}
