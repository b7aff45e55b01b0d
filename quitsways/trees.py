"""Pieces of ways along ties: trees in which on each tie something is paid, by the ower to the taker."""

from quitsways.subsets import Subsets


class Trees:
    """For all subsets of the people of a tally whether ties of theirs can be a piece of a way.

    `tied` has for each ower the takers to whom they have ties. A tree on a subset has a root: what the others there
    owe more than they are due goes to it, and what they owe less comes from it. `roots` has for each subset those who
    are the root of a tree in which all other ties can be paid so; `hooks` has those of them who can then pay, or be
    paid by, somebody outside, so that nobody in the subset has a rest. Both are subsets themselves.
    """

    def __init__(self, tally, tied):
        subsets = Subsets(tally.owing, tally.awaiting)
        self.sums = subsets.sums
        self.bits = subsets.bits
        self.owers = subsets.owers
        self.near = _neighbours(subsets, tied)
        self.roots = [0]
        self.hooks = [0]
        owers = (1 << subsets.owers) - 1
        takers = subsets.whole() - owers
        for subset in range(1, len(self.sums)):
            roots = sum([bit for person, bit in enumerate(self.bits) if subset & bit and self._is_root(subset, person)])
            self.roots.append(roots)
            outside = owers if self.sums[subset] > 0 else takers
            self.hooks.append(roots & outside if self.sums[subset] != 0 else 0)

    def _is_root(self, subset, person):
        """Whether there is a tree on a subset with this root, its lesser subsets being known."""
        others = subset - self.bits[person]
        if others == 0:
            return True
        return any([self.roots[subset - part] & self.bits[person] > 0 for part in self._branches(others, person)])

    def _branches(self, others, person):
        """The subsets with the first one of others that can hang on a person."""
        return [part for part in with_first(others) if self.hooks[part] & self.near[person]]

    def numbers_of_pieces(self):
        """The ascending list of how many pieces ways along the ties have."""
        # The bits of a subset's number here are the numbers of pieces into which it can fall.
        found = [1]
        for subset in range(1, len(self.sums)):
            numbers = 0
            for part in with_first(subset):
                if self.sums[part] == 0 and self.roots[part] > 0:
                    numbers = numbers | found[subset - part] << 1
            found.append(numbers)
        return _set_bits(found[-1])

    def numbers_of_payments(self, person):
        """The ascending list of how many payments a person has in ways along the ties, if what is even has a way."""
        own = self.bits[person]
        # The bits of a subset's number here are the numbers of branches of the person as its root.
        found = [0 for _ in self.sums]
        found[own] = 1
        ends = 0
        for subset in range(own + 1, len(self.sums)):
            if subset & own:
                for part in self._branches(subset - own, person):
                    found[subset] = found[subset] | found[subset - part] << 1
                if self.sums[subset] == 0:
                    ends = ends | found[subset]
        return _set_bits(ends)

    def drawings(self):
        """The list of the drawings of all ways along the ties, each an ascending tuple of pairs."""
        trees = {}
        found = [[()]]
        for subset in range(1, len(self.sums)):
            for person in _set_bits(self.roots[subset]):
                trees[(subset, person)] = self._trees_on(trees, subset, person)
            first = _set_bits(subset)[0]
            drawn = []
            for part in with_first(subset):
                # Any person will do as the root of a piece.
                if self.sums[part] == 0:
                    pieces = trees.get((part, first), [])
                    drawn.extend([piece + rest for piece in pieces for rest in found[subset - part]])
            found.append(drawn)
        return [tuple(sorted(pairs)) for pairs in found[-1]]

    def _trees_on(self, trees, subset, root):
        """The list of all trees on a subset with a root, as tuples of pairs, the lesser subsets' being known."""
        others = subset - self.bits[root]
        if others == 0:
            return [()]
        found = []
        for part in self._branches(others, root):
            rests = trees.get((subset - part, root), [])
            for hook in _set_bits(self.hooks[part] & self.near[root]):
                pair = (min(hook, root), max(hook, root) - self.owers)
                found.extend([tree + rest + (pair,) for tree in trees[(part, hook)] for rest in rests])
        return found


def _neighbours(subsets, tied):
    """For each person the subset of those to whom they have ties."""
    near = [0 for _ in subsets.bits]
    for ower, takers in enumerate(tied):
        for taker in takers:
            near[ower] += subsets.bits[subsets.owers + taker]
            near[subsets.owers + taker] += subsets.bits[ower]
    return near


def with_first(subset):
    """The list of all subsets of a subset, not the empty one, that have its first person."""
    first = subset & -subset
    others = subset - first
    part = others
    found = [subset]
    while part > 0:
        part = (part - 1) & others
        found.append(part + first)
    return found


def _set_bits(number):
    """The ascending list of the places of a number's bits."""
    return [place for place in range(number.bit_length()) if number & (1 << place)]
