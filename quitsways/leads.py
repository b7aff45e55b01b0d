"""Short and long ways to the end of what is left of an evening."""

from math import gcd

from quitsways.subsets import Subsets


def standing(units):
    """The numbers of those who are not quits, of the rests of one side."""
    return [number for number, rest in enumerate(units) if rest > 0]


def _subsets_left(tally, owers, takers):
    """The subsets of these owers and takers, with their rests."""
    return Subsets([tally.owing[ower] for ower in owers], [tally.awaiting[taker] for taker in takers])


def fewest_left(tally):
    """The least number of payments until all are quits."""
    owers = standing(tally.owing)
    takers = standing(tally.awaiting)
    return len(owers) + len(takers) - _subsets_left(tally, owers, takers).most[-1]


def lead_short(tally):
    """Make all quits with as few payments as can be, and give the list of the pairs that pay."""
    owers = standing(tally.owing)
    takers = standing(tally.awaiting)
    subsets = _subsets_left(tally, owers, takers)
    pairs = []
    for subset in subsets.best_parting():
        some_owers, some_takers = subsets.group(subset)
        pairs.extend(lead_front(tally, [owers[k] for k in some_owers], [takers[k] for k in some_takers]))
    return pairs


def lead_front(tally, owers, takers):
    """Let the front ones of two queues pay, whoever is quits going, until one is empty; give the list of the pairs."""
    pairs = []
    gone_owers = 0
    gone_takers = 0
    while gone_owers < len(owers) and gone_takers < len(takers):
        ower = owers[gone_owers]
        taker = takers[gone_takers]
        tally.pay(ower, taker)
        pairs.append((ower, taker))
        if tally.owing[ower] == 0:
            gone_owers += 1
        if tally.awaiting[taker] == 0:
            gone_takers += 1
    return pairs


def greatest_left(tally):
    """The greatest number of payments until all are quits."""
    if tally.is_over():
        return 0
    shared = 0
    for rest in tally.owing + tally.awaiting:
        shared = gcd(shared, rest)
    people_left = len(standing(tally.owing)) + len(standing(tally.awaiting))
    return min(people_left - 1, sum(tally.owing) // shared)


def lead_long(tally):
    """Make all quits with as many payments as can be, and give the list of the pairs that pay."""
    pairs = []
    while not tally.is_over():
        ower, taker = long_pair(tally)
        tally.pay(ower, taker)
        pairs.append((ower, taker))
    return pairs


def long_pair(tally):
    """A pair that can pay first in a way of the most payments.

    Somebody with the least rest of all pays, or is paid by, somebody with a greater one, if there is any. Say that
    there is a way of one piece, which is so just if one side's sum is the measure times the people less one, or more:
    then it is so again behind one of these pairs, and the first such pair is taken. Say that there is none: then the
    least rest is the measure, now and behind any of these pairs, and no way can have more payments than one that pays
    just the measure each time.
    """
    owers = standing(tally.owing)
    takers = standing(tally.awaiting)
    least = min([tally.owing[ower] for ower in owers] + [tally.awaiting[taker] for taker in takers])
    small_owers = [ower for ower in owers if tally.owing[ower] == least]
    great_takers = [taker for taker in takers if tally.awaiting[taker] > least]
    if small_owers and great_takers:
        return _first_holding(tally, [(small_owers[0], taker) for taker in great_takers])
    small_takers = [taker for taker in takers if tally.awaiting[taker] == least]
    great_owers = [ower for ower in owers if tally.owing[ower] > least]
    if small_takers and great_owers:
        return _first_holding(tally, [(ower, small_takers[0]) for ower in great_owers])
    return (owers[0], takers[0])


def _first_holding(tally, pairs):
    """The first of the pairs behind which there is a way of one piece, or the first one if there is none."""
    for pair in pairs:
        if _holds_behind(tally, pair):
            return pair
    return pairs[0]


def _holds_behind(tally, pair):
    """Whether there is a way of one piece behind a pair's payment."""
    ower, taker = pair
    units = min(tally.owing[ower], tally.awaiting[taker])
    owing = list(tally.owing)
    awaiting = list(tally.awaiting)
    owing[ower] -= units
    awaiting[taker] -= units
    left = [rest for rest in owing + awaiting if rest > 0]
    wanted = len(left) - 1
    half = sum(owing)
    # The measure is no more than what goes into some of the rests: often the least of them tells enough.
    shared = min(left)
    for rest in left:
        if half >= wanted * shared:
            return True
        shared = gcd(shared, rest)
    return half >= wanted * shared
