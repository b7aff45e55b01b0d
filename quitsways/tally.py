"""What is left of an evening while its people pay, in whole units."""

from quitsways.amounts import common_bottom, in_units, lowest
from quitsways.kinds import is_two_people


class Tally:
    """What each ower still owes and each taker is still due, so many of a unit that goes into all sums."""

    def __init__(self, evening):
        self.bottom = common_bottom(evening.owed + evening.due)
        self.owing = in_units(evening.owed, self.bottom)
        self.awaiting = in_units(evening.due, self.bottom)

    def allows(self, thing):
        """Whether a thing is a pair of people that can pay."""
        if not is_two_people(thing, len(self.owing), len(self.awaiting)):
            return False
        ower, taker = thing
        return self.owing[ower] > 0 and self.awaiting[taker] > 0

    def pay(self, ower, taker):
        """Let both pay the lesser of their rests, and tell how many units that is."""
        units = min(self.owing[ower], self.awaiting[taker])
        self.owing[ower] -= units
        self.awaiting[taker] -= units
        return units

    def is_over(self):
        """Whether all are quits."""
        # Both sides are equal in all, so the takers are quits when the owers are.
        return not any(self.owing)

    def shown(self):
        """The rests, as fractions."""
        owing = tuple([lowest(units, self.bottom) for units in self.owing])
        awaiting = tuple([lowest(units, self.bottom) for units in self.awaiting])
        return (owing, awaiting)


def paid_units(tally, thing):
    """The list of what the pairs of a row pay, in units, or None if a thing is no row."""
    if not isinstance(thing, tuple):
        return None
    units = []
    for pair in thing:
        if not tally.allows(pair):
            return None
        ower, taker = pair
        units.append(tally.pay(ower, taker))
    return units
