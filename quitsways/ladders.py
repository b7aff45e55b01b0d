"""Ladders: numbers for all groups that bar partings of more groups."""

from quitsways.errors import NoNumber
from quitsways.evenings import is_group
from quitsways.kinds import is_integer
from quitsways.limits import MOST_LADDERED
from quitsways.parts import bounded_subsets

NOBODY = ((), ())


def ladder(evening):
    """The least ladder: its number for all people is that of the most parts."""
    subsets = bounded_subsets(evening, MOST_LADDERED)
    return {subsets.group(subset): most for subset, most in enumerate(subsets.most)}


def is_ladder(evening, bound, thing):
    """Whether a thing is a ladder whose number for all people is at most the bound."""
    if not is_integer(bound):
        raise NoNumber()
    subsets = bounded_subsets(evening, MOST_LADDERED)
    if not isinstance(thing, dict) or len(thing) != len(subsets.sums):
        return False
    if not all([_is_rung(evening, key, value) for key, value in thing.items()]):
        return False
    # So many unlike keys, and each a right one: none is lacking.
    heights = [thing[subsets.group(subset)] for subset in range(len(subsets.sums))]
    if heights[0] != 0 or heights[-1] > bound:
        return False
    return all([_is_high_enough(subsets, heights, subset) for subset in range(1, len(heights))])


def _is_rung(evening, key, value):
    """Whether these are a group, or the pair of two empty lots, and an integer from 0 on."""
    return (key == NOBODY or is_group(evening, key)) and is_integer(value) and value >= 0


def _is_high_enough(subsets, heights, subset):
    """Whether a subset's number is high enough above those of the subsets with one person less."""
    below = max([heights[subset - bit] for bit in subsets.bits if subset & bit])
    if subsets.sums[subset] == 0:
        return heights[subset] > below
    return heights[subset] >= below
