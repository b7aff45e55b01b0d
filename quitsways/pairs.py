"""Two people: what can pass between them, and whether they must pay one another."""

from quitsways.amounts import is_amount, lowest
from quitsways.errors import NoAmount
from quitsways.leads import lead_front, standing
from quitsways.limits import MOST_PARTED, check_people
from quitsways.persons import check_ower, check_two
from quitsways.tally import Tally
from quitsways.trees import Trees

MOST_BY_ONE = 8


def _lots(units, more, less):
    """The dict from what lots of some people have, with the one and without the other of them, to these lots."""
    found = {0: ()}
    for person, each in enumerate(units):
        with_person = {known + each: found[known] + (person,) for known in found}
        if person == more:
            found = with_person
        elif person != less:
            # Of lots that have the same any one will do.
            found = {**found, **with_person}
    return found


def _differences(evening, ower, taker):
    """The dict from the units that can pass to a lot of owers with the one, and one of takers without the other.

    The first lot owes so much more than the second one is due.
    """
    check_people(evening, MOST_PARTED)
    tally = Tally(evening)
    most = min(tally.owing[ower], tally.awaiting[taker])
    found = {}
    for owed, owers in _lots(tally.owing, ower, None).items():
        for due, takers in _lots(tally.awaiting, None, taker).items():
            if 0 < owed - due <= most:
                found[owed - due] = (owers, takers)
    return found


def passing(evening, ower, taker):
    """The ascending list of all amounts that can pass between two people."""
    check_two(evening, ower, taker)
    bottom = Tally(evening).bottom
    return [lowest(units, bottom) for units in sorted(_differences(evening, ower, taker))]


def can_pass(evening, ower, taker, amount):
    """Whether some way has a payment of just this amount between two people."""
    return way_passing(evening, ower, taker, amount) is not None


def way_passing(evening, ower, taker, amount):
    """A way with a payment of just this amount between two people, or None."""
    check_two(evening, ower, taker)
    if not is_amount(amount):
        raise NoAmount()
    differences = _differences(evening, ower, taker)
    tally = Tally(evening)
    top, bottom = amount
    units, rest = divmod(top * tally.bottom, bottom)
    if rest > 0 or units not in differences:
        return None
    owers, takers = differences[units]
    # The one lot pays the other one whole, the ower last: just these units are left to them. The takers who are left
    # over get all from the owers who are, the taker last: they are due just as much then.
    some_owers = [other for other in owers if other != ower] + [ower]
    last_takers = [other for other in standing(tally.awaiting) if other not in takers and other != taker] + [taker]
    last_owers = [other for other in standing(tally.owing) if other not in owers]
    pairs = lead_front(tally, some_owers, list(takers)) + lead_front(tally, last_owers, last_takers)
    return tuple(pairs + [(ower, taker)])


def surely(evening):
    """The ascending list of all pairs that pay one another in every way."""
    tally = Tally(evening)
    whole = sum(tally.owing)
    found = []
    for ower, owed in enumerate(tally.owing):
        found.extend([(ower, taker) for taker, due in enumerate(tally.awaiting) if owed + due > whole])
    return found


def without(evening, ower, taker):
    """A way in which two people do not pay one another, or None."""
    check_two(evening, ower, taker)
    tally = Tally(evening)
    others = [other for other in standing(tally.awaiting) if other != taker]
    pairs = lead_front(tally, [ower], others)
    if tally.owing[ower] > 0:
        return None
    return tuple(pairs + lead_front(tally, standing(tally.owing), standing(tally.awaiting)))


def _numbers_by(evening, ower):
    """The ascending list of the numbers of payments that an ower has in ways."""
    check_ower(evening, ower)
    check_people(evening, MOST_BY_ONE)
    takers = list(range(len(evening.due)))
    return Trees(Tally(evening), [takers for _ in evening.owed]).numbers_of_payments(ower)


def most_by(evening, ower):
    """The greatest number of payments that an ower has in a way."""
    return _numbers_by(evening, ower)[-1]


def least_by(evening, ower):
    """The least number of payments that an ower has in a way."""
    return _numbers_by(evening, ower)[0]
