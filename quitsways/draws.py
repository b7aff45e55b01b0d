"""Ways each of whose payments is drawn evenly from all pairs that can pay."""

from quitsways.amounts import added, times
from quitsways.goings import Goings
from quitsways.limits import MOST_COUNTED, check_people
from quitsways.persons import check_two
from quitsways.tally import Tally


def shares(evening):
    """The dict from the numbers of payments to how likely a way has so many."""
    check_people(evening, MOST_COUNTED)
    goings = Goings(Tally(evening))
    known = {}
    for rests in goings.upward:
        steps = goings.steps[rests]
        found = {} if steps else {0: [(1, 1)]}
        for _, behind in steps:
            for number, share in known[behind].items():
                found.setdefault(number + 1, []).append(times(share, (1, len(steps))))
        known[rests] = {number: added(found[number]) for number in found}
    return known[goings.start]


def mean(evening):
    """The mean number of payments."""
    return added([times((number, 1), share) for number, share in shares(evening).items()])


def likely(evening, ower, taker):
    """How likely both pay one another."""
    check_people(evening, MOST_COUNTED)
    check_two(evening, ower, taker)
    goings = Goings(Tally(evening))
    known = {}
    for rests in goings.upward:
        # Both pay one another once at most: behind their payment nothing more is to be known.
        ends = [(1, 1) if pair == (ower, taker) else known[behind] for pair, behind in goings.steps[rests]]
        known[rests] = times(added(ends), (1, len(ends))) if ends else (0, 1)
    return known[goings.start]
