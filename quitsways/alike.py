"""Evenings all of whose ways have equally many payments."""

from quitsways.numbers import long_way, short_way


def unit_of(evening):
    """The side all of whose sums are one amount that goes into all of the other one's, and it; or None."""
    if _is_unit(evening.owed, evening.due):
        return ("owed", evening.owed[0])
    if _is_unit(evening.due, evening.owed):
        return ("due", evening.due[0])
    return None


def _is_unit(side, other_side):
    """Whether all sums of one side are equal, and go into all of the other one's."""
    top, bottom = side[0]
    if not all([amount == side[0] for amount in side]):
        return False
    return all([other_top * bottom % (other_bottom * top) == 0 for other_top, other_bottom in other_side])


def is_alike(evening):
    """Whether all ways have equally many payments."""
    return unlike_ways(evening) is None


def unlike_ways(evening):
    """Two ways with unlike numbers of payments, the one with fewer first, or None."""
    if unit_of(evening) is not None:
        return None
    few = short_way(evening)
    many = long_way(evening)
    return (few, many) if len(few) < len(many) else None
