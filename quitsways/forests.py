"""Flows without rings. A flow is a dict from pairs (ower, taker) to the units above 0 that pass between them."""


class Forest:
    """A flow whose pairs hang together in no ring."""

    def __init__(self):
        self.units = {}
        self.near = {}

    def put(self, ower, taker, units):
        """Add what passes between two people, and move units around the ring that comes of it, if any, until it opens.

        What each person has in all is kept so: around a ring each one pays, or is paid, as much more as less.
        """
        ring = self._pairs_between(ower, taker)
        # The pairs at even places lose what the new one and those at odd places gain.
        losing = ring[::2]
        shift = min([self.units[pair] for pair in losing]) if ring else 0
        for pair in ring[1::2]:
            self.units[pair] += shift
        for pair in losing:
            self.units[pair] -= shift
            if self.units[pair] == 0:
                self._cut(pair)
        self._tie((ower, taker), units + shift)

    def _tie(self, pair, units):
        """Let units pass between two people between whom nothing passes yet."""
        self.units[pair] = units
        for one, other in _both_ends(pair):
            if one not in self.near:
                self.near[one] = []
            self.near[one].append(other)

    def _cut(self, pair):
        """Take out a pair."""
        del self.units[pair]
        for one, other in _both_ends(pair):
            self.near[one].remove(other)

    def _pairs_between(self, ower, taker):
        """The list of the pairs on the path from a taker to an ower, empty if there is none."""
        path = self._path(_taker_spot(taker), ower)
        pairs = []
        for place in range(len(path) - 1):
            spot = min(path[place], path[place + 1])
            pairs.append((max(path[place], path[place + 1]), -1 - spot))
        return pairs

    def _path(self, start, goal):
        """The spots of the people on the path between two of them, empty if there is none."""
        behind = {goal: goal}
        front = [goal]
        while front and start not in behind:
            fresh = []
            for spot in front:
                for other in self.near.get(spot, []):
                    if other not in behind:
                        behind[other] = spot
                        fresh.append(other)
            front = fresh
        if start not in behind:
            return []
        path = [start]
        while path[-1] != goal:
            path.append(behind[path[-1]])
        return path


def _taker_spot(taker):
    """The number that stands for a taker where owers and takers are kept together: an ower's is their own one."""
    return -1 - taker


def _both_ends(pair):
    """The spots of a pair's people, each ahead of the other one."""
    ower, taker = pair
    spot = _taker_spot(taker)
    return [(ower, spot), (spot, ower)]


def without_rings(flow):
    """A flow along some of the pairs of this one, without a ring, in which each person has as much in all."""
    forest = Forest()
    for ower, taker in sorted(flow):
        forest.put(ower, taker, flow[(ower, taker)])
    return forest.units
