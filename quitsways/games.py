"""A game of two players: at each payment the first one says who pays, the second one to whom."""

from quitsways.errors import NoPerson, NoRow, NoWish
from quitsways.goings import Goings
from quitsways.limits import MOST_COUNTED, check_people
from quitsways.persons import check_ower
from quitsways.tally import Tally, paid_units

# What each payment is worth to the second player, by what this one wishes.
WORTHS = {"few": -1, "many": 1}


def _outcomes(goings, worth):
    """For all rests what the payments to come are worth, so much each, if both play as well as can be.

    The first player wants the least worth, the second one the greatest.
    """
    outcomes = {}
    for rests in goings.upward:
        replies = {}
        for (ower, _), behind in goings.steps[rests]:
            replies.setdefault(ower, []).append(outcomes[behind] + worth)
        outcomes[rests] = min([max(each) for each in replies.values()]) if replies else 0
    return outcomes


def game(evening):
    """The numbers of payments that come out if the first player wants few, and if this one wants many."""
    check_people(evening, MOST_COUNTED)
    goings = Goings(Tally(evening))
    low = _outcomes(goings, WORTHS["many"])[goings.start] * WORTHS["many"]
    high = _outcomes(goings, WORTHS["few"])[goings.start] * WORTHS["few"]
    return (low, high)


def reply(evening, row, ower, wish):
    """The least taker with whom the second player does best behind a row, when this ower is to pay."""
    tally = Tally(evening)
    if paid_units(tally, row) is None:
        raise NoRow()
    check_ower(evening, ower)
    if tally.owing[ower] == 0:
        raise NoPerson()
    if not isinstance(wish, str) or wish not in WORTHS:
        raise NoWish()
    check_people(evening, MOST_COUNTED)
    goings = Goings(tally)
    outcomes = _outcomes(goings, WORTHS[wish])
    ends = [(outcomes[behind], taker) for (payer, taker), behind in goings.steps[goings.start] if payer == ower]
    best = max([worth for worth, _ in ends])
    return min([taker for worth, taker in ends if worth == best])
