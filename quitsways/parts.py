"""Partings: the people in even groups."""

from quitsways.errors import TooMany
from quitsways.evenings import is_even
from quitsways.kinds import is_ascending
from quitsways.limits import MOST_PARTED, check_people
from quitsways.subsets import Subsets
from quitsways.tally import Tally

MOST_PARTINGS = 500
MOST_GROUPS = 2000


def is_parting(evening, thing):
    """Whether a thing is an ascending tuple of even groups such that each person is in just one of them."""
    if not isinstance(thing, tuple) or not all([is_even(evening, group) for group in thing]):
        return False
    owers = [ower for group in thing for ower in group[0]]
    takers = [taker for group in thing for taker in group[1]]
    if sorted(owers) != list(range(len(evening.owed))) or sorted(takers) != list(range(len(evening.due))):
        return False
    return is_ascending(thing)


def bounded_subsets(evening, most):
    """The subsets of the people, if these are not more than so many."""
    check_people(evening, most)
    tally = Tally(evening)
    return Subsets(tally.owing, tally.awaiting)


def most_parts(evening):
    """The greatest number of groups of a parting."""
    subsets = bounded_subsets(evening, MOST_PARTED)
    return subsets.most[-1]


def parting(evening):
    """A parting of as many groups as there can be."""
    subsets = bounded_subsets(evening, MOST_PARTED)
    return _groups_of(subsets, subsets.best_parting())


def _groups_of(subsets, chosen):
    """The ascending tuple of the groups that are these subsets."""
    return tuple(sorted([subsets.group(subset) for subset in chosen]))


def partings(evening):
    """The ascending list of all partings of as many groups as there can be."""
    subsets = bounded_subsets(evening, MOST_PARTED)
    found = _some_partings(subsets, MOST_PARTINGS + 1)
    if len(found) > MOST_PARTINGS:
        raise TooMany(MOST_PARTINGS)
    return sorted([_groups_of(subsets, chosen) for chosen in found])


def _some_partings(subsets, enough):
    """All partings of as many subsets as there can be, or just enough of them."""
    # A group of such a parting holds no lesser even one: otherwise it could be parted further.
    leasts = subsets.leasts()
    found = []
    begun = [(subsets.whole(), ())]
    while begun and len(found) < enough:
        left, chosen = begun.pop()
        if left == 0:
            found.append(chosen)
        else:
            begun.extend([(left - each, chosen + (each,)) for each in _next_parts(subsets, leasts, left)])
    return found


def _next_parts(subsets, leasts, left):
    """The least even subsets for the first person who is left, behind which no parting is spoilt."""
    first = left & -left
    fitting = [each for each in leasts if (each & first) > 0 and (each & left) == each]
    return [each for each in fitting if subsets.most[left - each] + 1 == subsets.most[left]]


def _bounded_groups(subsets, chosen):
    """The ascending list of the groups that are these subsets, if they are not too many."""
    if len(chosen) > MOST_GROUPS:
        raise TooMany(MOST_GROUPS)
    return sorted([subsets.group(subset) for subset in chosen])


def even_groups(evening):
    """The ascending list of all even groups."""
    subsets = bounded_subsets(evening, MOST_PARTED)
    return _bounded_groups(subsets, subsets.evens())


def least_groups(evening):
    """The ascending list of the even groups that hold no lesser even one."""
    subsets = bounded_subsets(evening, MOST_PARTED)
    return _bounded_groups(subsets, subsets.leasts())
