"""Strangers who say who pays whom, and rules that do."""

from quitsways.errors import NoEvenings, NoRule
from quitsways.evenings import Evening
from quitsways.limits import MOST_PARTED, check_people
from quitsways.numbers import fewest
from quitsways.tally import Tally
from quitsways.ways import led_row

MOST_EVENINGS = 20
RULES = ("greatest", "least", "front")


def tried(evening, payer):
    """The row that a payer leads, whether all are quits behind it, and its length."""
    tally = Tally(evening)
    row = led_row(tally, payer)
    return (row, "quits" if tally.is_over() else "stopped", len(row))


def worst(payer, evenings):
    """The number of the first evening on which a payer stops, or else takes the most payments above the fewest."""
    _check_evenings(evenings)
    # A payer may change the list that it was handed in with.
    asked = tuple(evenings)
    found = None
    most = 0
    for number, evening in enumerate(asked):
        _, word, length = tried(evening, payer)
        if word == "stopped":
            return number
        above = length - fewest(evening)
        if above > most:
            most = above
            found = number
    return found


def _check_evenings(thing):
    """Refuse what is no list or tuple of as many evenings as are let, then evenings of too many people."""
    if not isinstance(thing, (list, tuple)) or not 1 <= len(thing) <= MOST_EVENINGS:
        raise NoEvenings()
    if not all([isinstance(each, Evening) for each in thing]):
        raise NoEvenings()
    for evening in thing:
        check_people(evening, MOST_PARTED)


def rule_way(evening, rule):
    """The way that comes if always the pair pays that is first by a rule."""
    if not isinstance(rule, str) or rule not in RULES:
        raise NoRule()
    tally = Tally(evening)
    way = []
    while not tally.is_over():
        ower, taker = _first_by(rule, tally)
        tally.pay(ower, taker)
        way.append((ower, taker))
    return tuple(way)


def _first_by(rule, tally):
    """The least of the pairs that are first by a rule."""
    if rule == "greatest":
        return _first_paying(tally, min(max(tally.owing), max(tally.awaiting)))
    if rule == "least":
        return _first_paying(tally, min([rest for rest in tally.owing + tally.awaiting if rest > 0]))
    return (_with_at_least(tally.owing, 1)[0], _with_at_least(tally.awaiting, 1)[0])


def _with_at_least(rests, units):
    """The numbers of those whose rest is so many units or more."""
    return [number for number, rest in enumerate(rests) if rest >= units]


def _first_paying(tally, units):
    """The least of the pairs that pay just so many units."""
    owers = _with_at_least(tally.owing, units)
    takers = _with_at_least(tally.awaiting, units)
    # One of the two has just so many units as rest: any ower will do if there is such a taker.
    just_owers = [ower for ower in owers if tally.owing[ower] == units]
    just_takers = [taker for taker in takers if tally.awaiting[taker] == units]
    ower = owers[0] if just_takers else just_owers[0]
    taker = takers[0] if tally.owing[ower] == units else just_takers[0]
    return (ower, taker)
