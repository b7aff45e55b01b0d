"""Debts between people with names."""

from quitsways.amounts import added, is_amount, least_of, opposite
from quitsways.errors import Alike, NoAmount, NoLosers, NoName, NoNames, NoRing, NothingDone, TooMany
from quitsways.evenings import Evening
from quitsways.spelling import is_name

FEWEST_NAMES = 2
MOST_NAMES = 40
MOST_RINGED = 8


class Ledger:
    """Who owes whom how much, deed by deed, and the deeds can be taken back.

    A deed is a tuple of triples (debtor, lender, amount): so much more the one owes the other, or less if it is below
    0. Of two people at most one owes the other something, as what they owe one another is always set off.
    """

    def __init__(self, names):
        if not _are_names(names):
            raise NoNames()
        self._names = names
        self._deeds = ()

    def lend(self, one, other, amount):
        """Let the other one owe the one so much more."""
        self._check_names((one, other))
        if one == other:
            raise Alike()
        _check_amount(amount)
        self._do([(other, one, amount)])

    def bet(self, winner, losers, amount):
        """Let each of the losers owe the winner so much more."""
        listed = _listed(losers)
        self._check_names((winner,) + listed)
        if not listed or winner in listed or _has_twice(listed):
            raise NoLosers()
        _check_amount(amount)
        self._do([(loser, winner, amount) for loser in listed])

    def debts(self):
        """The ascending list of the triples (debtor, lender, amount), what two owe one another set off."""
        return sorted([(debtor, lender, amount) for (debtor, lender), amount in self._owing().items()])

    def nets(self):
        """The dict from all names to what they are due in all, below 0 for what they owe."""
        sums = {name: [] for name in self._names}
        for (debtor, lender), amount in self._owing().items():
            sums[lender].append(amount)
            sums[debtor].append(opposite(amount))
        return {name: added(sums[name]) for name in self._names}

    def evening(self):
        """The evening of all who are not quits, with the pair of the owers' names and the takers', or None."""
        nets = self.nets()
        owers = tuple([name for name in self._names if nets[name][0] < 0])
        takers = tuple([name for name in self._names if nets[name][0] > 0])
        if not owers:
            return None
        owed = tuple([opposite(nets[name]) for name in owers])
        due = tuple([nets[name] for name in takers])
        return (Evening(owed, due), (owers, takers))

    def cancel(self, names):
        """Take the least debt of a ring off all of its debts, and tell it."""
        listed = _listed(names)
        self._check_names(listed)
        ring = list(zip(listed, listed[1:] + listed[:1]))
        owing = self._owing()
        if len(listed) < 2 or _has_twice(listed) or not all([pair in owing for pair in ring]):
            raise NoRing()
        least = least_of([owing[pair] for pair in ring])
        self._do([(debtor, lender, opposite(least)) for debtor, lender in ring])
        return least

    def rings(self):
        """The ascending list of all rings, each of whose names owes the next one, beginning with its least name."""
        if len(self._names) > MOST_RINGED:
            raise TooMany(MOST_RINGED)
        owing = self._owing()
        found = []
        begun = [(name,) for name in self._names]
        while begun:
            found.extend([path for path in begun if (path[-1], path[0]) in owing])
            begun = [path + (name,) for path in begun for name in self._names
                     if (path[-1], name) in owing and name > path[0] and name not in path]
        return sorted(found)

    def back(self):
        """Take back the last deed that is not taken back."""
        if not self._deeds:
            raise NothingDone()
        self._deeds = self._deeds[:-1]

    def depth(self):
        """How many deeds can be taken back."""
        return len(self._deeds)

    def copy(self):
        """Another ledger, behind the same deeds, that goes on apart."""
        other = Ledger(self._names)
        other._deeds = self._deeds
        return other

    def trying(self, action):
        """Call a function with the ledger, put everything back, and return what the function returned."""
        deeds = self._deeds
        try:
            return action(self)
        finally:
            self._deeds = deeds

    def _check_names(self, things):
        """Refuse the first thing that is no name of the ledger."""
        for thing in things:
            if not isinstance(thing, str) or thing not in self._names:
                raise NoName(thing)

    def _do(self, changes):
        """Add a deed."""
        self._deeds = self._deeds + (tuple(changes),)

    def _owing(self):
        """The dict from pairs (debtor, lender) to what the one owes the other, above 0, set off."""
        changes = {}
        for deed in self._deeds:
            for debtor, lender, amount in deed:
                changes.setdefault((debtor, lender), []).append(amount)
                changes.setdefault((lender, debtor), []).append(opposite(amount))
        sums = {pair: added(changes[pair]) for pair in changes}
        return {pair: sums[pair] for pair in sums if sums[pair][0] > 0}


def _are_names(thing):
    """Whether a thing is a tuple of as many unlike names as a ledger has."""
    if not isinstance(thing, tuple) or not FEWEST_NAMES <= len(thing) <= MOST_NAMES:
        return False
    return all([is_name(each) for each in thing]) and not _has_twice(thing)


def _has_twice(names):
    """Whether one of the names stands there twice."""
    return len(set(names)) < len(names)


def _listed(thing):
    """The tuple of what a list or tuple has, empty for anything else."""
    return tuple(thing) if isinstance(thing, (list, tuple)) else ()


def _check_amount(thing):
    """Refuse what is no amount."""
    if not is_amount(thing):
        raise NoAmount()
