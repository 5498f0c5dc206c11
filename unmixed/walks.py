"""The walk that tells the one order of things put between neighbours, thing by thing."""

from unmixed.kin import LEFT, RIGHT
from unmixed.pasts import has_mark


class Walk:
    """The order of some things, and what has to be known to set one more among them.

    More things never turn two about: each one is set where the walk of all would come to it.
    """

    def __init__(self):
        self.listed = []
        # In the sequence in which they were set: each behind all that it was put among.
        self.neighbours = {}
        # Both as they stand: behind each left neighbour what was put ahead of no brother, and what was put ahead of
        # each thing. Their lists never change, so that walks may have them in common.
        self.roots = {}
        self.leads = {}

    def place(self, thing, left, right):
        """Set a thing whose neighbours are set; they stood side by side in the order of its past."""
        if right is not None and self.neighbours[right][LEFT] == left:
            peers = self.leads.get(right, [])
            at = len([peer for peer in peers if peer < thing])
            end = self.listed.index(right)
            self.leads[right] = [*peers[:at], thing, *peers[at:]]
        else:
            peers = self.roots.get(left, [])
            at = len([peer for peer in peers if self.comes_sooner(peer, thing, right)])
            end = self.end_behind(left)
            self.roots[left] = [*peers[:at], thing, *peers[at:]]
        spot = self.begin_of(peers[at]) if at < len(peers) else end
        self.listed.insert(spot, thing)
        self.neighbours[thing] = (left, right)

    def comes_sooner(self, root, thing, right):
        """Return whether a root comes ahead of a thing that becomes one behind the same left neighbour."""
        other = self.neighbours[root][RIGHT]
        if other == right:
            return root < thing
        if other is None or right is None:
            return other is None
        return self.listed.index(other) > self.listed.index(right)

    def begin_of(self, thing):
        """Return the position at which a thing begins, with all that leads it ahead of it."""
        while thing in self.leads:
            thing = self.leads[thing][0]
        return self.listed.index(thing)

    def end_behind(self, left):
        """Return the position behind all that hangs on a thing, or on the row's begin."""
        if left is None:
            return len(self.listed)
        while left in self.roots:
            left = self.roots[left][-1]
        return self.listed.index(left) + 1

    def with_thing(self, thing, left, right):
        """Return a walk with one thing more."""
        walk = Walk()
        walk.listed = list(self.listed)
        walk.neighbours = {other: self.neighbours[other] for other in self.neighbours}
        walk.roots = {other: self.roots[other] for other in self.roots}
        walk.leads = {other: self.leads[other] for other in self.leads}
        walk.place(thing, left, right)
        return walk

    def within(self, view):
        """Return the walk of the things of a view."""
        walk = Walk()
        walk.listed = things_in(view, self.listed)
        walk.neighbours = {thing: self.neighbours[thing] for thing in self.neighbours if has_mark(view, thing)}
        walk.roots = lists_in(view, self.roots)
        walk.leads = lists_in(view, self.leads)
        return walk


def things_in(view, things):
    """Return those of some things that a view has, as they stand."""
    return [thing for thing in things if thing[1] < view.get(thing[0], 0)]


def lists_in(view, lists):
    """Return the dictionary of lists of things with those that a view has, and no list without any."""
    seen = {thing: things_in(view, lists[thing]) for thing in lists}
    return {thing: seen[thing] for thing in seen if seen[thing]}


def walked(puts):
    """Return the order of a list of tuples of a thing and its two neighbours, each behind all that it was put among."""
    walk = Walk()
    for thing, left, right in puts:
        walk.place(thing, left, right)
    return walk.listed
