"""A way under way."""

from quitsways.amounts import lowest
from quitsways.errors import NoNumber, NothingDone, Quits, TooMany
from quitsways.kinds import is_integer
from quitsways.leads import fewest_left, greatest_left, lead_short, long_pair, standing
from quitsways.limits import MOST_PARTED
from quitsways.persons import check_two
from quitsways.tally import Tally


class Sitting:
    """The people of an evening, who pay one after the other, and can take payments back."""

    def __init__(self, evening):
        self._evening = evening
        self._row = ()

    def _tally(self):
        """What is left behind the payments so far."""
        tally = Tally(self._evening)
        for ower, taker in self._row:
            tally.pay(ower, taker)
        return tally

    def _small_tally(self):
        """What is left behind the payments so far, if not too many people are not quits."""
        tally = self._tally()
        if len(standing(tally.owing)) + len(standing(tally.awaiting)) > MOST_PARTED:
            raise TooMany(MOST_PARTED)
        return tally

    def pay(self, ower, taker):
        """Let both pay the lesser of their rests, and tell this amount."""
        check_two(self._evening, ower, taker)
        tally = self._tally()
        if not tally.allows((ower, taker)):
            raise Quits()
        self._row = self._row + ((ower, taker),)
        return lowest(tally.pay(ower, taker), tally.bottom)

    def so_far(self):
        """The row of those who have paid."""
        return self._row

    def left(self):
        """The rests."""
        return self._tally().shown()

    def is_over(self):
        """Whether all are quits."""
        return self._tally().is_over()

    def can_pay(self):
        """The ascending list of all pairs that can pay."""
        tally = self._tally()
        takers = standing(tally.awaiting)
        return [(ower, taker) for ower in standing(tally.owing) for taker in takers]

    def ends(self):
        """The least and the greatest number of payments, with those so far, with which the way can end."""
        tally = self._small_tally()
        done = len(self._row)
        return (done + fewest_left(tally), done + greatest_left(tally))

    def toward(self, number):
        """A pair that can pay next so that the way can end with so many payments in all, or None."""
        if not is_integer(number):
            raise NoNumber()
        tally = self._small_tally()
        wanted = number - len(self._row)
        least = fewest_left(tally)
        if tally.is_over() or not least <= wanted <= greatest_left(tally):
            return None
        if wanted == least:
            return lead_short(tally)[0]
        # Behind the first pair of a longest way the greatest number is one less, the least one no more than before:
        # so what is wanted is still between them.
        return long_pair(tally)

    def back(self):
        """Take back the last payment that is not taken back."""
        if not self._row:
            raise NothingDone()
        self._row = self._row[:-1]

    def depth(self):
        """How many payments can be taken back."""
        return len(self._row)

    def copy(self):
        """Another sitting, behind the same payments, that goes on apart."""
        other = Sitting(self._evening)
        other._row = self._row
        return other

    def trying(self, action):
        """Call a function with the sitting, put everything back, and return what the function returned."""
        row = self._row
        try:
            return action(self)
        finally:
            self._row = row
