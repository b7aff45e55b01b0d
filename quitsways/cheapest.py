"""Prices of what passes between two people: the least cost, and bounds that show it."""

from quitsways.amounts import added, is_at_most, is_fraction, lowest, times
from quitsways.drawings import way_for
from quitsways.errors import NoFraction, NoPrices, NoSettlement
from quitsways.flows import Flow
from quitsways.forests import without_rings
from quitsways.kinds import is_integer, is_table
from quitsways.limits import check_people
from quitsways.settlements import is_settlement
from quitsways.tally import Tally

HIGHEST_PRICE = 99
MOST_PRICED = 20


def _is_price(thing):
    """Whether a thing is an integer that can be a price."""
    return is_integer(thing) and -HIGHEST_PRICE <= thing <= HIGHEST_PRICE


def _check_prices(evening, thing):
    """Refuse what is no prices."""
    if not is_table(thing, len(evening.owed), len(evening.due)):
        raise NoPrices()
    if not all([_is_price(price) for row in thing for price in row]):
        raise NoPrices()


def cost(evening, prices, settlement):
    """What a settlement costs."""
    _check_prices(evening, prices)
    if not is_settlement(evening, settlement):
        raise NoSettlement()
    costs = []
    for price_row, row in zip(prices, settlement):
        costs.extend([times((price, 1), each) for price, each in zip(price_row, row)])
    return added(costs)


class CheapFlow:
    """A cheapest flow, and whole numbers for owers and takers: a bound that is worth as much."""

    def __init__(self, evening, prices):
        _check_prices(evening, prices)
        check_people(evening, MOST_PRICED)
        self.tally = Tally(evening)
        self.prices = prices
        self.for_owers = [min(row) for row in prices]
        self.for_takers = [0 for _ in evening.due]
        self.flow = self._tight_flow()
        # A flow along pairs whose numbers add up to their prices is a cheapest one as soon as it is full. Until
        # then those whom its rests reach owe more than they are due: so the bound is worth more behind each raise.
        while not self.flow.is_full():
            self._raise_bound()
            self.flow = self._tight_flow()

    def _gaps(self, ower):
        """For each taker how far both numbers are below the price."""
        prices = self.prices[ower]
        return [price - self.for_owers[ower] - worth for price, worth in zip(prices, self.for_takers)]

    def _tight_flow(self):
        """As much as can pass along the pairs whose numbers add up to their prices."""
        tied = []
        for ower in range(len(self.for_owers)):
            tied.append([taker for taker, gap in enumerate(self._gaps(ower)) if gap == 0])
        return Flow(self.tally.owing, self.tally.awaiting, tied)

    def _raise_bound(self):
        """Raise the numbers of the owers whom the flow's rests reach, and lower the takers', as far as can be."""
        owers = self.flow.owers
        takers = self.flow.takers
        gaps = [gap for ower in owers for taker, gap in enumerate(self._gaps(ower)) if taker not in takers]
        step = min(gaps)
        for ower in owers:
            self.for_owers[ower] += step
        for taker in takers:
            self.for_takers[taker] -= step


def cheapest(evening, prices):
    """The least cost of a settlement, and a way whose settlement has it."""
    cheap = CheapFlow(evening, prices)
    flow = without_rings(cheap.flow.passed())
    units = sum([prices[ower][taker] * flow[(ower, taker)] for ower, taker in flow])
    return (lowest(units, cheap.tally.bottom), way_for(evening, tuple(sorted(flow))))


def bound(evening, prices):
    """A bound that is worth the least cost."""
    cheap = CheapFlow(evening, prices)
    return (tuple([(worth, 1) for worth in cheap.for_owers]), tuple([(worth, 1) for worth in cheap.for_takers]))


def is_bound(evening, prices, least, thing):
    """Whether a thing is a bound that is worth a fraction at least."""
    _check_prices(evening, prices)
    if not is_fraction(least):
        raise NoFraction()
    if not isinstance(thing, tuple) or len(thing) != 2:
        return False
    for_owers, for_takers = thing
    if not _are_fractions(for_owers, len(evening.owed)) or not _are_fractions(for_takers, len(evening.due)):
        return False
    if not all([_fits(worth, for_takers, row) for worth, row in zip(for_owers, prices)]):
        return False
    sums = evening.owed + evening.due
    return is_at_most(least, added([times(worth, amount) for worth, amount in zip(for_owers + for_takers, sums)]))


def _are_fractions(thing, many):
    """Whether a thing is a tuple of so many fractions."""
    return isinstance(thing, tuple) and len(thing) == many and all([is_fraction(each) for each in thing])


def _fits(worth, for_takers, prices):
    """Whether an ower's fraction and each taker's add up to the price at most."""
    return all([is_at_most(added([worth, other]), (price, 1)) for other, price in zip(for_takers, prices)])
