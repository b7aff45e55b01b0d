"""Queues: the front ower pays the front taker, whoever is quits goes."""

from itertools import permutations

from quitsways.errors import NoOrder
from quitsways.evenings import people
from quitsways.kinds import is_number_below
from quitsways.leads import lead_front
from quitsways.limits import MOST_PARTED, check_people
from quitsways.subsets import Subsets
from quitsways.tally import Tally

MOST_QUEUED = 9


def _check_order(thing, many):
    """Refuse what is no tuple of all numbers below this one."""
    if not isinstance(thing, tuple) or not all([is_number_below(number, many) for number in thing]):
        raise NoOrder()
    if sorted(thing) != list(range(many)):
        raise NoOrder()


def queue_way(evening, owers, takers):
    """The way that comes of two orders."""
    _check_order(owers, len(evening.owed))
    _check_order(takers, len(evening.due))
    return tuple(lead_front(Tally(evening), owers, takers))


def queue_number(evening, owers, takers):
    """The number of payments of the way that comes of two orders."""
    return len(queue_way(evening, owers, takers))


def queue_least(evening):
    """The least number of payments over all orders, and the least pair of orders that has it."""
    return _first_of_all(evening, True)


def queue_most(evening):
    """The greatest number of payments over all orders, and the least pair of orders that has it."""
    return _first_of_all(evening, False)


def _first_of_all(evening, wants_few):
    """The least number over all orders, or else the greatest one, and the least pair of orders that has it."""
    check_people(evening, MOST_QUEUED)
    tally = Tally(evening)
    taker_orders = [(order, _front_sums(tally.awaiting, order)) for order in permutations(range(len(evening.due)))]
    best = -1
    found = None
    for owers in permutations(range(len(evening.owed))):
        known = {each: True for each in _front_sums(tally.owing, owers)}
        for takers, sums in taker_orders:
            # Both front ones are quits at once just where the sums up to them are equal on both sides.
            doubles = len([each for each in sums if each in known])
            worth = doubles if wants_few else people(evening) - doubles
            if worth > best:
                best = worth
                found = (people(evening) - doubles, (owers, takers))
    return found


def _front_sums(units, order):
    """What the first one, the first two .. of an order have in all."""
    sums = []
    so_far = 0
    for number in order:
        so_far += units[number]
        sums.append(so_far)
    return sums


def queue_unit(evening):
    """The side all of whose sums are one amount by which all of the other one's leave one rest, and it; or None."""
    tally = Tally(evening)
    if _is_queue_unit(tally.owing, tally.awaiting):
        return ("owed", evening.owed[0])
    if _is_queue_unit(tally.awaiting, tally.owing):
        return ("due", evening.due[0])
    return None


def _is_queue_unit(side, other_side):
    """Whether all sums of one side are equal, and all of the other one's leave one rest by them."""
    unit = side[0]
    rest = other_side[0] % unit
    return all([units == unit for units in side]) and all([units % unit == rest for units in other_side])


def queues_alike(evening):
    """Whether all orders have equally many payments."""
    return unlike_queues(evening) is None


def unlike_queues(evening):
    """Two pairs of orders with unlike numbers of payments, or None."""
    if queue_unit(evening) is not None:
        return None
    check_people(evening, MOST_PARTED)
    tally = Tally(evening)
    subsets = Subsets(tally.owing, tally.awaiting)
    most, few = _orders_by_doubles(subsets, -1)
    least, many = _orders_by_doubles(subsets, 1)
    return (few, many) if least < -most else None


def _orders_by_doubles(subsets, worth):
    """The least that all double payments of two orders can be worth, so much each, and such a pair of orders.

    Behind those who have come to the front on both sides, the next one comes on the side that has less so far. So what
    can follow is told by who has come, in whatever order.
    """
    best = [(0, 0) for _ in subsets.sums]
    for subset in reversed(range(subsets.whole())):
        choices = []
        for bit in _next_bits(subsets, subset):
            own = worth if subsets.sums[subset + bit] == 0 else 0
            choices.append((best[subset + bit][0] + own, bit))
        best[subset] = min(choices)
    owers = []
    takers = []
    subset = 0
    while subset < subsets.whole():
        _, bit = best[subset]
        subset += bit
        person = subsets.bits.index(bit)
        if person < subsets.owers:
            owers.append(person)
        else:
            takers.append(person - subsets.owers)
    return (best[0][0], (tuple(owers), tuple(takers)))


def _next_bits(subsets, subset):
    """The bits of those who can come next behind a subset: takers if its owers owe more, otherwise owers."""
    if subsets.sums[subset] > 0:
        side = subsets.bits[subsets.owers:]
    else:
        side = subsets.bits[:subsets.owers]
    return [bit for bit in side if not subset & bit]
