"""Settlements: how much passes between each two people, and the ways that they are mixed of."""

from math import gcd

from quitsways.amounts import added, common_bottom, in_units, is_amount, is_fraction, lowest
from quitsways.drawings import way_for
from quitsways.errors import NoSettlement, NoWay
from quitsways.forests import without_rings
from quitsways.kinds import is_table
from quitsways.tally import Tally, paid_units
from quitsways.ways import is_way


def is_settlement(evening, thing):
    """Whether a thing tells for each ower and each taker a fraction from 0 on, that add up to all sums."""
    if not is_table(thing, len(evening.owed), len(evening.due)):
        return False
    if not all([is_fraction(each) and each[0] >= 0 for row in thing for each in row]):
        return False
    if not all([added(row) == amount for row, amount in zip(thing, evening.owed)]):
        return False
    return all([added([row[taker] for row in thing]) == amount for taker, amount in enumerate(evening.due)])


def settlement_of(evening, passed, bottom):
    """The settlement of a dict from pairs to what passes between them, all of it with one bottom."""
    table = []
    for ower in range(len(evening.owed)):
        row = [passed.get((ower, taker), 0) for taker in range(len(evening.due))]
        table.append(tuple([lowest(top, bottom) for top in row]))
    return tuple(table)


def _passed_units(tally, way):
    """The dict from the pairs of a way to the units that they pay."""
    return {pair: units for pair, units in zip(way, paid_units(tally, way))}


def settled(evening, way):
    """The settlement of the payments of a way."""
    if not is_way(evening, way):
        raise NoWay()
    tally = Tally(evening)
    return settlement_of(evening, _passed_units(tally, way), tally.bottom)


def mixture(evening, settlement):
    """A list of pairs (share, way) whose settlements, so much of each, make up this one."""
    if not is_settlement(evening, settlement):
        raise NoSettlement()
    bottom = common_bottom([each for row in settlement for each in row])
    left = _flow_of(settlement, bottom)
    found = []
    while left:
        # What is left is a share of a settlement: without its rings it is the same share of a way's. As much of this
        # way is taken as there is, so that at least one more pair has nothing left each time.
        way = way_for(evening, tuple(sorted(without_rings(left))))
        tally = Tally(evening)
        passed = _passed_units(tally, way)
        top, parts = _least_ratio([(left[pair], passed[pair]) for pair in way])
        found.append((lowest(top * tally.bottom, bottom * parts), way))
        left = _less(left, parts, passed, top)
        bottom = bottom * parts
        shared = _common_factor(left, bottom)
        left = {pair: left[pair] // shared for pair in left}
        bottom = bottom // shared
    return found


def _flow_of(settlement, bottom):
    """The dict from all pairs between whom something passes to how much it is, with this bottom."""
    flow = {}
    for ower, row in enumerate(settlement):
        for taker, units in enumerate(in_units(row, bottom)):
            if units > 0:
                flow[(ower, taker)] = units
    return flow


def _least_ratio(ratios):
    """The pair of numbers whose first one is the least part of the second one."""
    least = ratios[0]
    for ratio in ratios:
        if ratio[0] * least[1] < least[0] * ratio[1]:
            least = ratio
    return least


def _less(flow, times_all, passed, times_passed):
    """So many times a flow less so many times what is passed, without the pairs that have nothing left."""
    left = {pair: flow[pair] * times_all - passed.get(pair, 0) * times_passed for pair in flow}
    return {pair: left[pair] for pair in left if left[pair] > 0}


def _common_factor(flow, bottom):
    """The greatest number that goes into a bottom and all units of a flow."""
    shared = bottom
    for units in flow.values():
        shared = gcd(shared, units)
    return shared


def is_mixture(evening, settlement, thing):
    """Whether a thing is a mixture with this settlement."""
    if not is_settlement(evening, settlement):
        raise NoSettlement()
    if not isinstance(thing, list) or not all([_is_shared_way(evening, item) for item in thing]):
        return False
    shares = [share for share, _ in thing]
    if added(shares) != (1, 1):
        return False
    return _mixed(evening, thing, common_bottom(shares)) == settlement


def _is_shared_way(evening, thing):
    """Whether a thing is a pair (share, way)."""
    return isinstance(thing, tuple) and len(thing) == 2 and is_amount(thing[0]) and is_way(evening, thing[1])


def _mixed(evening, mixed, bottom):
    """The settlement of a mixture, a bottom of all of whose shares is given."""
    passed = {}
    for (share_top, share_bottom), way in mixed:
        times_way = share_top * (bottom // share_bottom)
        units = _passed_units(Tally(evening), way)
        for pair in way:
            passed[pair] = passed.get(pair, 0) + units[pair] * times_way
    return settlement_of(evening, passed, Tally(evening).bottom * bottom)
