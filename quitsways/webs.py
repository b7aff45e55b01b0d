"""Webs of ties: who may pay whom, and whether somebody can get stuck."""

from quitsways.errors import NotSettled, NoWeb
from quitsways.evenings import people
from quitsways.flows import Flow
from quitsways.forests import without_rings
from quitsways.kinds import is_lot, is_pairs
from quitsways.limits import check_people
from quitsways.marks import hanging_marks
from quitsways.settlements import settlement_of
from quitsways.tally import Tally, paid_units
from quitsways.trees import Trees

MOST_WEBBED = 9


def is_web(evening, thing):
    """Whether a thing is an ascending tuple of unlike pairs (ower, taker)."""
    return is_pairs(thing, len(evening.owed), len(evening.due))


def _check_web(evening, thing):
    """Refuse what is no web."""
    if not is_web(evening, thing):
        raise NoWeb()


def _tied_takers(evening, web):
    """For each ower the list of the takers to whom they have ties."""
    tied = [[] for _ in evening.owed]
    for ower, taker in web:
        tied[ower].append(taker)
    return tied


def _flow_along(evening, web):
    """As much as can pass along a web, if it is one."""
    _check_web(evening, web)
    tally = Tally(evening)
    return Flow(tally.owing, tally.awaiting, _tied_takers(evening, web))


def can_settle(evening, web):
    """Whether some settlement has noughts where no tie is."""
    return _flow_along(evening, web).is_full()


def settle(evening, web):
    """A settlement that has noughts where no tie is, or None."""
    flow = _flow_along(evening, web)
    if not flow.is_full():
        return None
    return settlement_of(evening, flow.passed(), Tally(evening).bottom)


def cut(evening, web):
    """A lot of owers who owe more than all takers are due to whom they have ties, or None."""
    flow = _flow_along(evening, web)
    return None if flow.is_full() else tuple(flow.owers)


def is_cut(evening, web, thing):
    """Whether a thing is a lot of owers who owe more than all takers are due to whom they have ties."""
    _check_web(evening, web)
    if not is_lot(thing, len(evening.owed)):
        return False
    tally = Tally(evening)
    tied = _tied_takers(evening, web)
    takers = sorted(set([taker for ower in thing for taker in tied[ower]]))
    return sum([tally.owing[ower] for ower in thing]) > sum([tally.awaiting[taker] for taker in takers])


def _check_settled(evening, web):
    """Refuse what is no web, then one along which the evening cannot be settled."""
    if not can_settle(evening, web):
        raise NotSettled()


def is_stuck(evening, web, thing):
    """Whether a thing is a row along a web behind which somebody is stuck."""
    _check_settled(evening, web)
    tally = Tally(evening)
    if paid_units(tally, thing) is None:
        return False
    tied = _tied_takers(evening, web)
    if not all([taker in tied[ower] for ower, taker in thing]):
        return False
    return any([_is_left_alone(tally, ower, takers) for ower, takers in enumerate(tied)])


def _is_left_alone(tally, ower, takers):
    """Whether an ower still owes, and none of the takers is still due."""
    return tally.owing[ower] > 0 and not any([tally.awaiting[taker] > 0 for taker in takers])


def is_safe(evening, web):
    """Whether nobody can get stuck along a web."""
    return stuck(evening, web) is None


def stuck(evening, web):
    """A row along a web behind which somebody is stuck, or None."""
    _check_settled(evening, web)
    if not missing(evening, web):
        return None
    tied = _tied_takers(evening, web)
    for ower in range(len(evening.owed)):
        row = _row_against(evening, tied, ower)
        if row is not None:
            return row
    return None


def _row_against(evening, tied, ower):
    """A row behind which just this ower, too, is stuck, or None.

    There is one exactly if the others can pay the takers of this ower so much that these are due less than the ower
    owes: then the ower pays them the rest.
    """
    tally = Tally(evening)
    flow = _flow_of_others(tally, tied, ower)
    if sum([flow.awaiting[taker] for taker in tied[ower]]) >= tally.owing[ower]:
        return None
    passed = flow.passed()
    for taker in tied[ower]:
        if flow.awaiting[taker] > 0:
            passed[(ower, taker)] = flow.awaiting[taker]
    # The others pay what they have left to a taker who is not there. Two of them with rests in one piece would make a
    # ring with this taker: so behind the rings in each piece at most one person is not made quits by its pairs.
    absent = len(evening.due)
    for other, rest in enumerate(flow.owing):
        if other != ower and rest > 0:
            passed[(other, absent)] = rest
    forest = without_rings(passed)
    return _row_of(tally, {pair: forest[pair] for pair in forest if pair[1] != absent})


def _flow_of_others(tally, tied, ower):
    """As much as the others can pay to the takers to whom this ower has ties."""
    wanted = [False for _ in tally.awaiting]
    for taker in tied[ower]:
        wanted[taker] = True
    tied_others = [[each for each in takers if wanted[each]] for takers in tied]
    tied_others[ower] = []
    return Flow(tally.owing, tally.awaiting, tied_others)


def _row_of(tally, flow):
    """A row that pays just a flow without rings, in each piece of which at most one person is not made quits.

    There is always a pair one of whose people is quits by it while the other one's rest is no less, for of the ends of
    a piece at most one is that person.
    """
    row = []
    left = sorted(flow)
    while left:
        later = []
        for ower, taker in left:
            if flow[(ower, taker)] == min(tally.owing[ower], tally.awaiting[taker]):
                tally.pay(ower, taker)
                row.append((ower, taker))
            else:
                later.append((ower, taker))
        left = later
    return tuple(row)


def missing(evening, web):
    """The ascending tuple of all pairs that are no ties, but whose two people hang together by ties."""
    _check_web(evening, web)
    owers = len(evening.owed)
    takers = len(evening.due)
    marks = hanging_marks(owers, takers, web)
    ties = {tie: True for tie in web}
    found = []
    for ower in range(owers):
        for taker in range(takers):
            if marks[ower] == marks[owers + taker] and (ower, taker) not in ties:
                found.append((ower, taker))
    return tuple(found)


def safer(evening, web):
    """The web with all that is missing."""
    return tuple(sorted(web + missing(evening, web)))


def web_numbers(evening, web):
    """The ascending list of the numbers of payments of all ways along a web."""
    _check_web(evening, web)
    check_people(evening, MOST_WEBBED)
    trees = Trees(Tally(evening), _tied_takers(evening, web))
    return sorted([people(evening) - pieces for pieces in trees.numbers_of_pieces()])
