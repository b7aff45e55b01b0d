"""How many payments ways have: the fewest, the most, and all between."""

from math import gcd

from quitsways.errors import NoNumber
from quitsways.kinds import is_integer
from quitsways.leads import fewest_left, greatest_left, lead_long, lead_short
from quitsways.limits import MOST_PARTED, check_people
from quitsways.tally import Tally

MOST_LOAVES = 10 ** 30


def _bounded_tally(evening):
    """The tally of an evening, if its people are not too many."""
    check_people(evening, MOST_PARTED)
    return Tally(evening)


def fewest(evening):
    """The least number of payments of a way."""
    return fewest_left(_bounded_tally(evening))


def greatest(evening):
    """The greatest number of payments of a way."""
    return greatest_left(Tally(evening))


def short_way(evening):
    """A way with as few payments as can be."""
    return tuple(lead_short(_bounded_tally(evening)))


def long_way(evening):
    """A way with as many payments as can be."""
    return tuple(lead_long(Tally(evening)))


def can_have(evening, number):
    """Whether there is a way with so many payments."""
    if not is_integer(number):
        raise NoNumber()
    tally = _bounded_tally(evening)
    return fewest_left(tally) <= number <= greatest_left(tally)


def way_of(evening, number):
    """A way with so many payments, or None."""
    if not can_have(evening, number):
        return None
    # Along a long way the number of its payments so far, with the fewest that can follow, goes from the fewest
    # of all to the most in steps of 1 at most: so somewhere it is the number that is asked for.
    tally = Tally(evening)
    begun = []
    for ower, taker in long_way(evening):
        if len(begun) + fewest_left(tally) == number:
            break
        tally.pay(ower, taker)
        begun.append((ower, taker))
    return tuple(begun + lead_short(tally))


def _is_loaves(thing):
    """Whether a thing is an integer that loaves lets."""
    return is_integer(thing) and 1 <= thing <= MOST_LOAVES


def loaves(one, other):
    """The least and the greatest number of payments where so many owe 1 and so many others are due equal sums."""
    if not _is_loaves(one) or not _is_loaves(other):
        raise NoNumber()
    shared = gcd(one, other)
    both = one + other
    return (both - shared, min(both - 1, one * other // shared))
