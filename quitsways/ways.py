"""Rows of payments, and the ways that make all quits."""

from quitsways.amounts import lowest
from quitsways.errors import NoPair, NoRow
from quitsways.tally import Tally, paid_units


def rests(evening, row):
    """What is still owed and still due behind a row."""
    tally = Tally(evening)
    if paid_units(tally, row) is None:
        raise NoRow()
    return tally.shown()


def paid(evening, row):
    """The tuple of the amounts that the pairs of a row pay."""
    tally = Tally(evening)
    units = paid_units(tally, row)
    if units is None:
        raise NoRow()
    return tuple([lowest(each, tally.bottom) for each in units])


def is_row(evening, thing):
    """Whether a thing is a tuple of pairs, each of which can pay behind those ahead of it."""
    return paid_units(Tally(evening), thing) is not None


def is_way(evening, thing):
    """Whether a thing is a row behind which all are quits."""
    tally = Tally(evening)
    return paid_units(tally, thing) is not None and tally.is_over()


def led(evening, choose):
    """The way that a function choose(rests) leads, which gives a pair that can pay."""
    tally = Tally(evening)
    row = led_row(tally, choose)
    if not tally.is_over():
        raise NoPair(len(row))
    return row


def led_row(tally, choose):
    """The row that a function leads, until it gives no pair that can pay, or all are quits."""
    row = []
    while not tally.is_over():
        pair = choose(tally.shown())
        if not tally.allows(pair):
            break
        ower, taker = pair
        tally.pay(ower, taker)
        row.append((ower, taker))
    return tuple(row)
