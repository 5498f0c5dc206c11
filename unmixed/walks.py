"""The walk that tells the one order of things put between neighbours, thing by thing."""

from unmixed.kin import LEFT, RIGHT


class Walk:
    """The order of some things, and what has to be known to set one more among them.

    More things never turn two about: each one is set where the walk of all would come to it.
    """

    def __init__(self):
        self.listed = []
        self.neighbours = {}
        # Both as they stand: behind each left neighbour what was put ahead of no brother, and what was put ahead of
        # each thing.
        self.roots = {}
        self.leads = {}

    def place(self, thing, left, right):
        """Set a thing whose neighbours are set; they stood side by side in the order of its past."""
        if right is not None and self.neighbours[right][LEFT] == left:
            peers = self.leads.setdefault(right, [])
            at = len([peer for peer in peers if peer < thing])
            end = self.listed.index(right)
        else:
            peers = self.roots.setdefault(left, [])
            at = len([peer for peer in peers if self.comes_sooner(peer, thing, right)])
            end = self.end_behind(left)
        spot = self.begin_of(peers[at]) if at < len(peers) else end
        peers.insert(at, thing)
        self.listed.insert(spot, thing)
        self.neighbours[thing] = (left, right)

    def comes_sooner(self, root, thing, right):
        """Return whether a root comes ahead of a thing that becomes one behind the same left neighbour."""
        other = self.neighbours[root][RIGHT]
        if other == right:
            return root < thing
        if other is None or right is None:
            return other is None
        return self.listed.index(other) > self.listed.index(right)

    def begin_of(self, thing):
        """Return the position at which a thing begins, with all that leads it ahead of it."""
        while self.leads.get(thing):
            thing = self.leads[thing][0]
        return self.listed.index(thing)

    def end_behind(self, left):
        """Return the position behind all that hangs on a thing, or on the row's begin."""
        if left is None:
            return len(self.listed)
        while self.roots.get(left):
            left = self.roots[left][-1]
        return self.listed.index(left) + 1


def walked(puts):
    """Return the order of a list of tuples of a thing and its two neighbours, each behind all that it was put among."""
    walk = Walk()
    for thing, left, right in puts:
        walk.place(thing, left, right)
    return walk.listed
