"""All ways of an evening: how many there are, and which."""

from quitsways.errors import NoNumber, NoWay, TooMany
from quitsways.goings import Goings
from quitsways.kinds import is_number_below
from quitsways.limits import MOST_COUNTED, check_people
from quitsways.tally import Tally
from quitsways.trees import Trees
from quitsways.ways import is_way

MOST_WAYS = 2000
MOST_DRAWINGS = 2000


def _bounded_goings(evening):
    """The goings of an evening, if its people are not too many."""
    check_people(evening, MOST_COUNTED)
    return Goings(Tally(evening))


def _many_from(goings):
    """The dict from all rests to the number of the ways from there on."""
    many = {}
    for rests in goings.upward:
        steps = goings.steps[rests]
        many[rests] = sum([many[behind] for _, behind in steps]) if steps else 1
    return many


def many_ways(evening):
    """The number of all ways."""
    goings = _bounded_goings(evening)
    return _many_from(goings)[goings.start]


def ways_by_number(evening):
    """The dict from the numbers of payments that ways have to how many have so many."""
    goings = _bounded_goings(evening)
    known = {}
    for rests in goings.upward:
        steps = goings.steps[rests]
        found = {} if steps else {0: 1}
        for _, behind in steps:
            for number, many in known[behind].items():
                found[number + 1] = found.get(number + 1, 0) + many
        known[rests] = found
    return known[goings.start]


def all_ways(evening):
    """The ascending list of all ways."""
    goings = _bounded_goings(evening)
    if _many_from(goings)[goings.start] > MOST_WAYS:
        raise TooMany(MOST_WAYS)
    found = []
    begun = [((), goings.start)]
    while begun:
        found.extend([row for row, rests in begun if not goings.steps[rests]])
        begun = [(row + (pair,), behind) for row, rests in begun for pair, behind in goings.steps[rests]]
    return sorted(found)


def way_at(evening, number):
    """The way with this number when all are ascending."""
    goings = _bounded_goings(evening)
    many = _many_from(goings)
    if not is_number_below(number, many[goings.start]):
        raise NoNumber()
    way = []
    rests = goings.start
    left = number
    while goings.steps[rests]:
        for pair, behind in goings.steps[rests]:
            if left < many[behind]:
                way.append(pair)
                rests = behind
                break
            left -= many[behind]
    return tuple(way)


def way_number(evening, way):
    """The number of a way when all are ascending."""
    goings = _bounded_goings(evening)
    if not is_way(evening, way):
        raise NoWay()
    many = _many_from(goings)
    number = 0
    rests = goings.start
    for pair in way:
        number += sum([many[behind] for other, behind in goings.steps[rests] if other < pair])
        rests = [behind for other, behind in goings.steps[rests] if other == pair][0]
    return number


def drawings(evening):
    """The ascending list of all drawings."""
    check_people(evening, MOST_COUNTED)
    takers = list(range(len(evening.due)))
    found = Trees(Tally(evening), [takers for _ in evening.owed]).drawings()
    if len(found) > MOST_DRAWINGS:
        raise TooMany(MOST_DRAWINGS)
    return sorted(found)
