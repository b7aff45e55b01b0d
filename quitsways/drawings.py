"""Drawings: who pays whom in a way, whatever the order."""

from quitsways.errors import NoDrawing, NoWay, TooMany
from quitsways.kinds import is_pairs
from quitsways.marks import hanging_marks
from quitsways.tally import Tally
from quitsways.ways import is_way

MOST_PAIRS = 10


def doubles(evening, way):
    """The places of the payments behind which both are quits."""
    if not is_way(evening, way):
        raise NoWay()
    tally = Tally(evening)
    places = []
    for place, (ower, taker) in enumerate(way):
        tally.pay(ower, taker)
        if tally.owing[ower] == 0 and tally.awaiting[taker] == 0:
            places.append(place)
    return tuple(places)


def pieces(evening, way):
    """The ascending list of the groups that hang together by pairs of the way."""
    if not is_way(evening, way):
        raise NoWay()
    owers = len(evening.owed)
    marks = hanging_marks(owers, len(evening.due), way)
    return sorted([_marked(marks, owers, mark) for mark in sorted(set(marks))])


def _marked(marks, owers, wanted):
    """The group of those with this mark, the marks of so many owers standing ahead of the takers'."""
    some_owers = tuple([ower for ower, mark in enumerate(marks[:owers]) if mark == wanted])
    some_takers = tuple([taker for taker, mark in enumerate(marks[owers:]) if mark == wanted])
    return (some_owers, some_takers)


def drawing(evening, way):
    """The pairs of a way, ascending."""
    if not is_way(evening, way):
        raise NoWay()
    return tuple(sorted(way))


def _way_of(evening, thing):
    """A way of just these pairs, or None if a thing is no drawing."""
    if not is_pairs(thing, len(evening.owed), len(evening.due)):
        return None
    order = _outer_first(thing)
    # The amounts that pass are the same in each order in which nobody is quits ahead of their last pair,
    # so one such order tells of all of them.
    if order is not None and is_way(evening, order):
        return order
    return None


def _outer_first(pairs):
    """The pairs in an order in which each is the last one of one of its people, or None if they run in a ring."""
    owers = {}
    takers = {}
    for ower, taker in pairs:
        owers[ower] = owers.get(ower, 0) + 1
        takers[taker] = takers.get(taker, 0) + 1
    order = []
    left = list(pairs)
    while left:
        inner = []
        for ower, taker in left:
            if owers[ower] > 1 and takers[taker] > 1:
                inner.append((ower, taker))
            else:
                order.append((ower, taker))
                owers[ower] -= 1
                takers[taker] -= 1
        if len(inner) == len(left):
            return None
        left = inner
    return tuple(order)


def is_drawing(evening, thing):
    """Whether a thing is an ascending tuple of the pairs of some way."""
    return _way_of(evening, thing) is not None


def way_for(evening, drawing):
    """A way with this drawing."""
    way = _way_of(evening, drawing)
    if way is None:
        raise NoDrawing()
    return way


def many_ways_for(evening, drawing):
    """The number of the ways with this drawing."""
    if not is_drawing(evening, drawing):
        raise NoDrawing()
    if len(drawing) > MOST_PAIRS:
        raise TooMany(MOST_PAIRS)
    return _many_orders(drawing)


def _many_orders(pairs):
    """In how many orders each of the pairs is the last one of one of its people."""
    same_ower = [_others_with(pairs, pair, 0) for pair in pairs]
    same_taker = [_others_with(pairs, pair, 1) for pair in pairs]
    orders = [1]
    for left in range(1, 1 << len(pairs)):
        many = 0
        for place in range(len(pairs)):
            bit = 1 << place
            is_outer = (left & same_ower[place]) == 0 or (left & same_taker[place]) == 0
            if left & bit and is_outer:
                many += orders[left - bit]
        orders.append(many)
    return orders[-1]


def _others_with(pairs, pair, side):
    """The set of the other pairs with the same person on this side, as a number with a bit for each pair."""
    found = 0
    for place, other in enumerate(pairs):
        if other != pair and other[side] == pair[side]:
            found += 1 << place
    return found
