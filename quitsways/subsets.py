"""All subsets of some people, each a number with a bit for each person, and the even parts in them."""


class Subsets:
    """The subsets of some owers and takers, with whole sums: the owers' bits stand ahead of the takers'."""

    def __init__(self, owing, awaiting):
        self.owers = len(owing)
        self.bits = [1 << person for person in range(len(owing) + len(awaiting))]
        self.sums = _subset_sums(owing + [-units for units in awaiting])
        self.most = _most_evens(self.sums, self.bits)

    def whole(self):
        """The subset of all people."""
        return len(self.sums) - 1

    def group(self, subset):
        """The pair of the lots of owers and takers in a subset."""
        owers = [place for place in range(self.owers) if subset & self.bits[place]]
        takers = [place - self.owers for place in range(self.owers, len(self.bits)) if subset & self.bits[place]]
        return (tuple(owers), tuple(takers))

    def evens(self):
        """All even subsets but the empty one."""
        return [subset for subset in range(1, len(self.sums)) if self.sums[subset] == 0]

    def leasts(self):
        """The even subsets that hold no lesser one."""
        return [subset for subset in self.evens() if self.most[subset] == 1]

    def best_parting(self):
        """As many even subsets as there can be, such that each person is in just one of them."""
        found = []
        last = self.whole()
        subset = last
        while subset > 0:
            subset = _best_within(self.most, self.bits, subset)
            if self.sums[subset] == 0:
                found.append(last - subset)
                last = subset
        return found


def _subset_sums(weights):
    """For each subset what its owers owe, less what its takers are due."""
    sums = [0]
    for weight in weights:
        sums = sums + [known + weight for known in sums]
    return sums


def _best_within(most, bits, subset):
    """Of the subsets with one person less one into which the most even subsets fit."""
    return max([(most[subset - bit], subset - bit) for bit in bits if subset & bit])[1]


def _most_evens(sums, bits):
    """For each subset how many even subsets without common people fit into it at most."""
    most = [0]
    for subset in range(1, len(sums)):
        # If the subset is not even, somebody is left over; if it is, the last of its parts closes with it.
        within = max([most[subset - bit] for bit in bits if subset & bit])
        most.append(within + 1 if sums[subset] == 0 else within)
    return most
