"""The words of the document done the long way, apart from the package: by trying all there is."""

import random
from fractions import Fraction
from functools import lru_cache
from itertools import combinations

from quitsways.evenings import Evening, measure


def fraction(amount):
    """A fraction of the document as one of Python's."""
    return Fraction(amount[0], amount[1])


def amount(value):
    """The other way round."""
    value = Fraction(value)
    return (value.numerator, value.denominator)


def evening(owed, due, unit=1):
    """The evening of these sums times a unit."""
    return Evening(tuple(amount(each * Fraction(unit)) for each in owed),
                   tuple(amount(each * Fraction(unit)) for each in due))


def start(some_evening):
    """The rests ahead of all payments, as lists."""
    return [fraction(each) for each in some_evening.owed], [fraction(each) for each in some_evening.due]


def play(some_evening, row):
    """The rests behind a row, and what is paid, or None if a pair cannot pay."""
    owing, awaiting = start(some_evening)
    amounts = []
    for ower, taker in row:
        lesser = min(owing[ower], awaiting[taker])
        if lesser <= 0:
            return None
        owing[ower] -= lesser
        awaiting[taker] -= lesser
        amounts.append(lesser)
    return owing, awaiting, amounts


def is_way(some_evening, row):
    """Whether the pairs pay one after the other until all are quits."""
    played = play(some_evening, row)
    return played is not None and not any(played[0]) and not any(played[1])


def all_ways(some_evening):
    """All ways, ascending."""
    found = []

    def go_on(owing, awaiting, row):
        if not any(owing):
            found.append(tuple(row))
        for ower, rest in enumerate(owing):
            for taker, other in enumerate(awaiting):
                if rest > 0 and other > 0:
                    lesser = min(rest, other)
                    go_on(owing[:ower] + [rest - lesser] + owing[ower + 1:],
                          awaiting[:taker] + [other - lesser] + awaiting[taker + 1:], row + [(ower, taker)])

    go_on(*start(some_evening), [])
    return found


@lru_cache(None)
def lengths(owing, awaiting):
    """The numbers of payments of all ways from these rests on, by trying all."""
    if not owing:
        return frozenset([0])
    found = set()
    for ower, rest in enumerate(owing):
        for taker, other in enumerate(awaiting):
            lesser = min(rest, other)
            left = sorted(owing[:ower] + owing[ower + 1:] + ((rest - lesser,) if rest > lesser else ()))
            due = sorted(awaiting[:taker] + awaiting[taker + 1:] + ((other - lesser,) if other > lesser else ()))
            found |= {number + 1 for number in lengths(tuple(left), tuple(due))}
    return frozenset(found)


def lengths_of(some_evening):
    """The numbers of payments of all ways of an evening, ascending."""
    owing, awaiting = start(some_evening)
    unit = fraction(measure(some_evening))
    return sorted(lengths(tuple(sorted(int(each / unit) for each in owing)),
                          tuple(sorted(int(each / unit) for each in awaiting))))


def drawn_way(chance, some_evening):
    """A way each of whose payments is drawn."""
    owing, awaiting = start(some_evening)
    row = []
    while any(owing):
        ower = chance.choice([person for person, rest in enumerate(owing) if rest])
        taker = chance.choice([person for person, rest in enumerate(awaiting) if rest])
        lesser = min(owing[ower], awaiting[taker])
        owing[ower] -= lesser
        awaiting[taker] -= lesser
        row.append((ower, taker))
    return tuple(row)


def no_table(some_evening):
    """Nothing between each two people, as lists."""
    return [[Fraction(0) for _ in some_evening.due] for _ in some_evening.owed]


def table(values):
    """Lists of values as a tuple of tuples of the document's fractions."""
    return tuple(tuple(amount(each) for each in row) for row in values)


def values(settlement):
    """The other way round."""
    return [[fraction(each) for each in row] for row in settlement]


def mixed(some_evening, shared_ways):
    """What passes between each two people if so much of each way is paid, as lists."""
    found = no_table(some_evening)
    for share, way in shared_ways:
        for (ower, taker), units in zip(way, play(some_evening, way)[2]):
            found[ower][taker] += Fraction(share) * units
    return found


def even_shares(some_evening):
    """The settlement in which each pays each by how much both are due of all, as lists."""
    owing, awaiting = start(some_evening)
    return [[rest * other / sum(owing) for other in awaiting] for rest in owing]


def lots(many):
    """All lots of numbers below this one."""
    return [lot for size in range(many + 1) for lot in combinations(range(many), size)]


def all_groups(some_evening):
    """All groups, and the pair of two empty lots."""
    return [(owers, takers) for owers in lots(len(some_evening.owed)) for takers in lots(len(some_evening.due))]


def is_even(some_evening, group):
    """Whether a group's sums are equal."""
    owing, awaiting = start(some_evening)
    return sum(owing[ower] for ower in group[0]) == sum(awaiting[taker] for taker in group[1])


def even_groups(some_evening):
    """All even groups, ascending."""
    return sorted(group for group in all_groups(some_evening) if group != ((), ()) and is_even(some_evening, group))


def holds(group, lesser):
    """Whether a group holds another, lesser one."""
    return group != lesser and set(lesser[0]) <= set(group[0]) and set(lesser[1]) <= set(group[1])


def all_partings(some_evening):
    """All partings, of however many groups, ascending."""
    evens = even_groups(some_evening)
    found = []

    def go_on(owers, takers, begun):
        if not owers and not takers:
            found.append(tuple(sorted(begun)))
            return
        for group in evens:
            if owers[0] in group[0] and set(group[0]) <= set(owers) and set(group[1]) <= set(takers):
                go_on([ower for ower in owers if ower not in group[0]],
                      [taker for taker in takers if taker not in group[1]], begun + [group])

    go_on(list(range(len(some_evening.owed))), list(range(len(some_evening.due))), [])
    return sorted(found)


def split(chance, whole, many):
    """A whole in so many whole parts, each 1 or more."""
    cuts = sorted(chance.sample(range(1, whole), many - 1))
    return [high - low for low, high in zip([0] + cuts, cuts + [whole])]


def some_evening(chance, owers, takers, most, unit=1):
    """An evening of so many people, what is owed being from 1 to the most, or a bit more."""
    owed = [chance.randint(1, most) for _ in range(owers)]
    owed[0] += max(0, takers - sum(owed))
    return evening(owed, split(chance, sum(owed), takers), unit)


def small_evenings(seed, many, people):
    """So many evenings of up to so many people, with units that are whole and not."""
    chance = random.Random(seed)
    found = []
    for _ in range(many):
        owers = chance.randint(1, people - 1)
        takers = chance.randint(1, people - owers)
        unit = Fraction(chance.randint(1, 4), chance.randint(1, 4))
        found.append(some_evening(chance, owers, takers, chance.choice([1, 2, 3, 6, 12]), unit))
    return found
