"""Evenings: what each ower owes, and what each taker is due."""

from quitsways.amounts import added, common_measure, is_amount, times
from quitsways.errors import BadEvening, NoAmount, NotEven
from quitsways.kinds import is_lot

MOST_SUMS = 100


class Evening:
    """What each ower owes, and what each taker is due: both sides are equal in all."""

    def __init__(self, owed, due):
        if not _is_side(owed):
            raise BadEvening("owed")
        if not _is_side(due):
            raise BadEvening("due")
        if added(owed) != added(due):
            raise BadEvening("sums")
        self.owed = owed
        self.due = due

    def __eq__(self, other):
        return isinstance(other, Evening) and self.owed == other.owed and self.due == other.due


def _is_side(thing):
    """Whether a thing is a tuple of as many amounts as an evening is constructed from."""
    if not isinstance(thing, tuple) or not 1 <= len(thing) <= MOST_SUMS:
        return False
    return all([is_amount(amount) for amount in thing])


def _evening_of(owed, due):
    """An evening of sums that are known to be right, however many there are."""
    # The constructor bounds the sizes, which a returned evening may pass: so its sums are put in behind it.
    evening = Evening(((1, 1),), ((1, 1),))
    evening.owed = owed
    evening.due = due
    return evening


def total(evening):
    """The sum of what is owed."""
    return added(evening.owed)


def people(evening):
    """The number of the people."""
    return len(evening.owed) + len(evening.due)


def measure(evening):
    """The greatest amount of which all sums are whole multiples."""
    return common_measure(evening.owed + evening.due)


def scaled(evening, amount):
    """The evening with each sum times an amount."""
    if not is_amount(amount):
        raise NoAmount()
    owed = tuple([times(each, amount) for each in evening.owed])
    due = tuple([times(each, amount) for each in evening.due])
    return _evening_of(owed, due)


def mirrored(evening):
    """The evening with both sides exchanged."""
    return _evening_of(evening.due, evening.owed)


def joined(one_evening, other_evening):
    """The evening of the people of the one, then those of the other."""
    return _evening_of(one_evening.owed + other_evening.owed, one_evening.due + other_evening.due)


def is_group(evening, thing):
    """Whether a thing is a pair of a lot of owers and a lot of takers, not both empty."""
    if not isinstance(thing, tuple) or len(thing) != 2:
        return False
    owers, takers = thing
    if not is_lot(owers, len(evening.owed)) or not is_lot(takers, len(evening.due)):
        return False
    return len(owers) + len(takers) > 0


def _sums_of(evening, group):
    """The pair of what the owers of a group owe, and what its takers are due, sum by sum."""
    owers, takers = group
    return (tuple([evening.owed[ower] for ower in owers]), tuple([evening.due[taker] for taker in takers]))


def is_even(evening, thing):
    """Whether a thing is a group whose sums on both sides are equal."""
    if not is_group(evening, thing):
        return False
    owed, due = _sums_of(evening, thing)
    return added(owed) == added(due)


def part(evening, group):
    """The evening of an even group, in its order."""
    if not is_even(evening, group):
        raise NotEven()
    owed, due = _sums_of(evening, group)
    return _evening_of(owed, due)
