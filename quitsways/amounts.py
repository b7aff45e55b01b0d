"""Fractions: pairs (top, bottom) of integers in lowest terms, the bottom above 0."""

from math import gcd, lcm

from quitsways.kinds import is_integer


def is_fraction(thing):
    """Whether a thing is a fraction."""
    if not isinstance(thing, tuple) or len(thing) != 2:
        return False
    top, bottom = thing
    if not is_integer(top) or not is_integer(bottom):
        return False
    return bottom > 0 and gcd(top, bottom) == 1


def is_amount(thing):
    """Whether a thing is a fraction above 0."""
    return is_fraction(thing) and thing[0] > 0


def lowest(top, bottom):
    """The fraction top / bottom in lowest terms."""
    shared = gcd(top, bottom)
    return (top // shared, bottom // shared)


def times(one, other):
    """The product of two fractions."""
    return lowest(one[0] * other[0], one[1] * other[1])


def opposite(fraction):
    """The fraction as far below 0 as this one is above it, or the other way round."""
    top, bottom = fraction
    return (-top, bottom)


def is_at_most(one, other):
    """Whether one fraction is no more than another one."""
    return one[0] * other[1] <= other[0] * one[1]


def common_bottom(fractions):
    """The least bottom that all of the fractions can be written with."""
    shared = 1
    for _, bottom in fractions:
        shared = lcm(shared, bottom)
    return shared


def in_units(fractions, shared):
    """The list of the tops of the fractions when all are written with this bottom."""
    return [top * (shared // bottom) for top, bottom in fractions]


def added(fractions):
    """The sum of the fractions."""
    shared = common_bottom(fractions)
    return lowest(sum(in_units(fractions, shared)), shared)


def least_of(fractions):
    """The least of the fractions."""
    units = in_units(fractions, common_bottom(fractions))
    return fractions[units.index(min(units))]


def common_measure(fractions):
    """The greatest amount of which all of the fractions, none of them 0, are whole multiples."""
    shared = 0
    for top, _ in fractions:
        shared = gcd(shared, top)
    return (shared, common_bottom(fractions))
