"""11.1: a ledger."""

import itertools
import random
import unittest
from fractions import Fraction

from quitsways.errors import Alike, NoAmount, NoLosers, NoName, NoNames, NoRing, NothingDone, TooMany
from quitsways.evenings import Evening, measure
from quitsways.ledgers import Ledger
from quitsways.numbers import fewest
from tests import reference
from tests.strangers import Checks, nested, strangers

HALF = (1, 2)
ONE = (1, 1)
TWO = (2, 1)
NAMES = ("cy", "ann", "dee", "bob")
FORTY = tuple(one + other for one in "abcdefgh" for other in "vwxyz")
NO_AMOUNTS = [(0, 1), (-1, 1), (2, 4), (1, 0), (1, -1), (True, 1), (1, True), [1, 1], 1, "1", None, (1,), (1, 1, 1)]


def told(ledger):
    """All that a ledger tells of itself, but its evening, and its rings where it has many names."""
    nets = ledger.nets()
    return (ledger.debts(), nets, ledger.depth(), ledger.rings() if len(nets) <= 8 else None)


class Model:
    """What each owes each, set off, by Python's fractions: below 0 is what the other one owes."""

    def __init__(self, names):
        self.names = names
        self.owing = {pair: Fraction(0) for pair in itertools.permutations(names, 2)}

    def add(self, debtor, lender, value):
        """Let the one owe the other so much more."""
        self.owing[debtor, lender] += value
        self.owing[lender, debtor] -= value

    def debts(self):
        return sorted((*pair, reference.amount(value)) for pair, value in self.owing.items() if value > 0)

    def net(self, name):
        return sum(self.owing[other, name] for other in self.names if other != name)

    def ring(self, names):
        """The debts along some unlike names, the last one's to the first one behind them."""
        return [(names[k - 1], names[k]) for k in range(len(names))]

    def rings(self):
        return sorted(names for many in range(2, len(self.names) + 1)
                      for names in itertools.permutations(self.names, many)
                      if names[0] == min(names) and all(self.owing[pair] > 0 for pair in self.ring(names)))


def some_amount(chance):
    return reference.amount(Fraction(chance.randint(1, 6), chance.randint(1, 4)))


def do_something(chance, ledger, model):
    """Let a ledger and its model do the same, drawn deed, and give the ledger's method's name."""
    kind = chance.choice(["lend", "lend", "bet", "cancel", "cancel"])
    if kind == "lend":
        one, other = chance.sample(model.names, 2)
        amount = some_amount(chance)
        assert ledger.lend(one, other, amount) is None
        model.add(other, one, reference.fraction(amount))
    elif kind == "bet":
        winner, *losers = chance.sample(model.names, chance.randint(2, len(model.names)))
        amount = some_amount(chance)
        assert ledger.bet(winner, chance.choice([list, tuple])(losers), amount) is None
        for loser in losers:
            model.add(loser, winner, reference.fraction(amount))
    else:
        rings = model.rings()
        if not rings:
            return do_something(chance, ledger, model)
        ring = chance.choice(rings)
        turn = chance.randrange(len(ring))
        least = min(model.owing[pair] for pair in model.ring(ring))
        assert ledger.cancel(chance.choice([list, tuple])(ring[turn:] + ring[:turn])) == reference.amount(least)
        for pair in model.ring(ring):
            model.add(*pair, -least)
    return kind


class TestNames(Checks, unittest.TestCase):
    def test_names(self):
        for names in (("a", "b"), ("b", "a"), NAMES, FORTY, ("abcdefgh", "z"), ("zzzzzzzz", "aaaaaaaa"), ("ok", "none")):
            self.assertEqual(Ledger(names).nets(), {name: (0, 1) for name in names})
            rings = [] if len(names) <= 8 else None
            self.assertEqual(told(Ledger(names)), ([], {name: (0, 1) for name in names}, 0, rings))
            self.assertIs(Ledger(names).evening(), None)

    def test_no_names(self):
        wrong = [["ann", "bob"], ("ann",), (), ("ann", "bob", "ann"), ("ann", "ann"), FORTY + ("aa",), FORTY * 2, "ab",
                 ("ann", ""), ("", "bob"), ("ann", "abcdefghi"), ("Ann", "bob"), ("ann", "boB"), ("ann", "bob\n"),
                 ("ann\n", "bob"), ("ann", "b b"), ("ann", " bob"), ("ann", "bob "), ("ann", "b1"), ("ann", "b-b"),
                 ("ann", "bob\t"), ("ann", "b_b"), ("ann", "b\u00e4"), ("ann", "\u0431"), ("ann", "\uff41"), ("ann", "\n"),
                 ("ann", 1), (1, 2), ("ann", None), ("ann", b"bob"), ("ann", ("bob",)), ("ann", ["bob"]), (("ann", "bob"),),
                 {"ann": 1, "bob": 2}, {"ann": 1}.keys(), ("ann", True), ("a`", "b"), ("a{", "b"), ("a@", "b"), ("aZ", "b")]
        for thing in wrong + strangers():
            if thing != ("a", "b"):
                self.refused(NoNames, {}, Ledger, thing)

    def test_equal_to_nothing_else(self):
        ledger = Ledger(NAMES)
        for thing in strangers() + [NAMES, ledger.debts(), ledger.nets()]:
            self.assertFalse(ledger == thing)
            self.assertTrue(ledger != thing)


class TestDeeds(Checks, unittest.TestCase):
    def test_lend(self):
        ledger = Ledger(NAMES)
        self.assertIs(ledger.lend("ann", "bob", TWO), None)
        self.assertEqual(ledger.debts(), [("bob", "ann", TWO)])
        self.assertEqual(ledger.nets(), {"cy": (0, 1), "ann": TWO, "dee": (0, 1), "bob": (-2, 1)})
        ledger.lend("ann", "bob", HALF)
        self.assertEqual(ledger.debts(), [("bob", "ann", (5, 2))])
        ledger.lend("bob", "ann", ONE)
        self.assertEqual(ledger.debts(), [("bob", "ann", (3, 2))])
        ledger.lend("bob", "ann", (3, 2))
        self.assertEqual(ledger.debts(), [])
        self.assertEqual(ledger.nets(), {name: (0, 1) for name in NAMES})
        self.assertIs(ledger.evening(), None)
        ledger.lend("bob", "ann", (1, 3))
        self.assertEqual(ledger.debts(), [("ann", "bob", (1, 3))])
        self.assertEqual(ledger.depth(), 5)

    def test_bet(self):
        ledger = Ledger(NAMES)
        self.assertIs(ledger.bet("cy", ["dee", "ann"], HALF), None)
        self.assertEqual(ledger.debts(), [("ann", "cy", HALF), ("dee", "cy", HALF)])
        self.assertEqual(ledger.nets(), {"cy": ONE, "ann": (-1, 2), "dee": (-1, 2), "bob": (0, 1)})
        ledger.bet("ann", ("cy",), ONE)
        self.assertEqual(ledger.debts(), [("cy", "ann", HALF), ("dee", "cy", HALF)])
        ledger.bet("bob", ("cy", "ann", "dee"), TWO)
        self.assertEqual(ledger.debts(), [("ann", "bob", TWO), ("cy", "ann", HALF), ("cy", "bob", TWO), ("dee", "bob", TWO),
                                          ("dee", "cy", HALF)])

    def test_errors_of_lend_in_order(self):
        ledger = Ledger(NAMES)
        ledger.lend("ann", "bob", ONE)
        before = told(ledger)
        for thing in ["eve", "", "Ann", "ann ", "ann\n", b"ann", ("ann",), ["ann"]] + strangers():
            for other in NAMES + ("eve", None):
                for amount in (ONE, None, (0, 1)):
                    self.no_name(thing, ledger.lend, thing, other, amount)
            self.no_name(thing, ledger.lend, "ann", thing, ONE)
            self.no_name(thing, ledger.lend, "ann", thing, thing)
        self.no_name("eve", ledger.lend, "eve", "eve", ONE)
        for amount in [ONE] + NO_AMOUNTS:
            self.refused(Alike, {}, ledger.lend, "bob", "bob", amount)
        for amount in NO_AMOUNTS + strangers():
            self.refused(NoAmount, {}, ledger.lend, "ann", "bob", amount)
        self.assertEqual(told(ledger), before)

    def test_errors_of_bet_in_order(self):
        ledger = Ledger(NAMES)
        ledger.lend("ann", "bob", ONE)
        before = told(ledger)
        no_losers = [(), [], ("bob", "bob"), ["bob", "cy", "bob"], ("ann",), ("bob", "ann"), ["ann", "ann"], "bob", "b", "",
                     {"bob": 1}, {}, None, 0, b"bob", {"bob": 1}.keys(), iter(["bob"]), range(0), Evening((ONE,), (ONE,))]
        for thing in ["eve", "", "Ann", b"ann", ("ann",)] + strangers():
            self.no_name(thing, ledger.bet, thing, ["bob"], ONE)
            self.no_name(thing, ledger.bet, thing, ["eve"], None)
            self.no_name(thing, ledger.bet, thing, None, None)
            self.no_name(thing, ledger.bet, "ann", ["bob", thing], ONE)
            self.no_name(thing, ledger.bet, "ann", ("bob", "bob", "ann", thing, "eve"), None)
            self.no_name(thing, ledger.bet, "ann", (thing, thing), (0, 1))
        for losers in no_losers:
            for amount in (ONE, (0, 1), None):
                self.refused(NoLosers, {}, ledger.bet, "ann", losers, amount)
        for thing in strangers():
            if not isinstance(thing, (list, tuple)) or len(thing) == 0:
                self.refused(NoLosers, {}, ledger.bet, "ann", thing, ONE)
            else:
                self.no_name(thing[0], ledger.bet, "ann", thing, None)
        for amount in NO_AMOUNTS + strangers():
            self.refused(NoAmount, {}, ledger.bet, "ann", ["bob", "cy"], amount)
        self.assertEqual(told(ledger), before)

    def no_name(self, thing, method, *arguments):
        """The call raises NoName with the very thing."""
        with self.assertRaises(NoName) as caught:
            method(*arguments)
        self.assertIs(type(caught.exception), NoName)
        self.assertEqual(list(vars(caught.exception)), ["name"])
        self.assertIs(caught.exception.name, thing)

    def test_errors_of_cancel_in_order(self):
        ledger = Ledger(NAMES)
        ledger.bet("ann", ["bob", "cy"], ONE)
        ledger.bet("bob", ["cy"], ONE)
        ledger.bet("cy", ["ann"], TWO)
        self.assertEqual(ledger.debts(), [("ann", "cy", ONE), ("bob", "ann", ONE), ("cy", "bob", ONE)])
        before = told(ledger)
        for thing in ["eve", "", "Ann", b"ann", ("ann",)] + strangers():
            for names in ([thing], (thing, "ann"), ["ann", "ann", thing, "eve"], ("ann", "bob", thing), [thing, thing]):
                self.no_name(thing, ledger.cancel, names)
        for thing in strangers():
            if isinstance(thing, (list, tuple)) and len(thing) > 0:
                self.no_name(thing[0], ledger.cancel, thing)
            else:
                self.refused(NoRing, {}, ledger.cancel, thing)
        for names in ((), [], ("ann",), ["bob"], ("ann", "ann"), ("ann", "cy", "bob", "cy"), ("ann", "cy", "ann", "cy"),
                      ("ann", "bob"), ("bob", "ann"), ("ann", "bob", "cy"), ("ann", "cy", "dee"), ("ann", "dee"), "ann",
                      ("ann", "cy"), ("cy", "ann"), ("ann", "cy", "bob", "ann"), ("ann", "cy", "bob", "ann", "cy", "bob"),
                      ("ann", "cy", "bob", "dee"), {"ann": 1, "cy": 2, "bob": 3}, {"ann": 1, "cy": 2, "bob": 3}.keys(),
                      iter(["ann", "cy", "bob"]), "ab"):
            self.refused(NoRing, {}, ledger.cancel, names)
        self.assertEqual(told(ledger), before)
        self.assertEqual(ledger.rings(), [("ann", "cy", "bob")])
        self.assertEqual(ledger.cancel(("ann", "cy", "bob")), ONE)

    def test_lists_can_be_changed(self):
        ledger = Ledger(NAMES)
        losers = ["ann", "bob"]
        ledger.bet("cy", losers, ONE)
        losers.clear()
        ledger.lend("dee", "cy", TWO)
        ledger.lend("ann", "dee", (3, 1))
        ring = ["ann", "cy", "dee"]
        self.assertEqual(ledger.cancel(ring), ONE)
        ring.reverse()
        ring.append("bob")
        self.assertEqual(ledger.debts(), [("bob", "cy", ONE), ("cy", "dee", ONE), ("dee", "ann", TWO)])
        for thing in (ledger.debts(), ledger.nets(), ledger.rings()):
            thing.clear()
        self.assertEqual(ledger.debts(), [("bob", "cy", ONE), ("cy", "dee", ONE), ("dee", "ann", TWO)])
        for method in (ledger.debts, ledger.nets, ledger.evening, ledger.rings, ledger.depth):
            self.unchanged(method)

    def test_forty_figures_and_beyond(self):
        ledger = Ledger(("a", "b", "c"))
        big = 10 ** 40 - 1
        ledger.lend("a", "b", (big, 1))
        ledger.lend("a", "b", (1, big))
        ledger.lend("b", "c", (big, 2))
        self.assertEqual(ledger.debts(), [("b", "a", (big * big + 1, big)), ("c", "b", (big, 2))])
        evening, names = ledger.evening()
        ledger.lend("c", "a", evening.due[0])
        self.assertEqual(ledger.nets()["a"], (0, 1))
        self.assertEqual(names, (("b", "c"), ("a",)))


class TestTold(Checks, unittest.TestCase):
    def like(self, ledger, model):
        """The ledger tells what its model has."""
        self.assertEqual(ledger.debts(), model.debts())
        nets = {name: model.net(name) for name in model.names}
        self.assertEqual(ledger.nets(), {name: reference.amount(net) for name, net in nets.items()})
        if len(model.names) <= 8:
            self.assertEqual(ledger.rings(), model.rings())
        owers = tuple(name for name in model.names if nets[name] < 0)
        takers = tuple(name for name in model.names if nets[name] > 0)
        if not owers:
            self.assertIs(ledger.evening(), None)
            return
        evening, names = ledger.evening()
        self.assertIs(type(evening), Evening)
        self.assertEqual(names, (owers, takers))
        self.assertEqual(evening.owed, tuple(reference.amount(-nets[name]) for name in owers))
        self.assertEqual(evening.due, tuple(reference.amount(nets[name]) for name in takers))
        self.assertEqual((type(ledger.evening()), type(names), type(names[0])), (tuple, tuple, tuple))

    def rings_alone(self, ledger, model):
        """Of a few names just those that are a ring can be taken off, whichever of them is the first one."""
        before, rings = told(ledger), model.rings()
        for many in (1, 2, 3, 4):
            for names in itertools.permutations(model.names, many):
                turn = names.index(min(names))
                if names[turn:] + names[:turn] in rings:
                    least = min(model.owing[pair] for pair in model.ring(names))
                    self.assertEqual(ledger.trying(lambda tried: tried.cancel(names)), reference.amount(least))
                else:
                    self.refused(NoRing, {}, ledger.cancel, names)
        self.assertEqual(told(ledger), before)

    def test_against_model(self):
        chance = random.Random(110)
        kinds = []
        for turn in range(80):
            names = tuple(chance.sample(["ann", "b", "cy", "dee", "ed", "z"], chance.randint(2, 6)))
            ledger, model = Ledger(names), Model(names)
            self.like(ledger, model)
            for _ in range(25):
                kinds.append(do_something(chance, ledger, model))
                self.like(ledger, model)
            self.rings_alone(ledger, model)
        self.assertTrue(min(kinds.count(kind) for kind in ("lend", "bet", "cancel")) > 50)

    def test_evening_of_fractions(self):
        ledger = Ledger(NAMES)
        ledger.bet("dee", ["ann", "cy"], (1, 3))
        ledger.lend("bob", "ann", (1, 6))
        evening, names = ledger.evening()
        self.assertEqual((evening.owed, evening.due), (((1, 3), HALF), ((2, 3), (1, 6))))
        self.assertEqual(names, (("cy", "ann"), ("dee", "bob")))
        self.assertEqual((measure(evening), fewest(evening)), ((1, 6), 3))

    def test_forty_names(self):
        chance = random.Random(111)
        names = tuple(chance.sample(FORTY, 40))
        ledger, model = Ledger(names), Model(names)
        for _ in range(120):
            one, other = chance.sample(names, 2)
            ledger.lend(one, other, (3, 2))
            model.add(other, one, Fraction(3, 2))
        ledger.bet(names[0], names[1:], ONE)
        for name in names[1:]:
            model.add(name, names[0], 1)
        self.like(ledger, model)
        self.assertEqual(ledger.depth(), 121)

    def test_quits_are_not_in_the_evening(self):
        ledger = Ledger(NAMES)
        ledger.lend("ann", "bob", ONE)
        ledger.lend("bob", "dee", ONE)
        self.assertEqual(ledger.debts(), [("bob", "ann", ONE), ("dee", "bob", ONE)])
        evening, names = ledger.evening()
        self.assertEqual((evening.owed, evening.due, names), ((ONE,), (ONE,), (("dee",), ("ann",))))
        self.assertEqual(ledger.nets(), {"cy": (0, 1), "ann": ONE, "dee": (-1, 1), "bob": (0, 1)})


class TestRings(Checks, unittest.TestCase):
    def no_ring_of(self, ledger, one, other):
        """Neither of two people has a ring with the other one."""
        before = told(ledger)
        for names in ((one, other), [one, other], (other, one), [other, one]):
            self.refused(NoRing, {}, ledger.cancel, names)
        self.assertEqual(told(ledger), before)
        self.assertEqual([ring for ring in ledger.rings() if len(ring) < 3], [])

    def test_no_ring_of_two(self):
        # What two owe one another is set off, so at most one of them owes the other one.
        ledger = Ledger(NAMES)
        self.no_ring_of(ledger, "ann", "bob")
        ledger.lend("ann", "bob", TWO)
        self.no_ring_of(ledger, "ann", "bob")
        for amount, debts in ((ONE, [("bob", "ann", ONE)]), (ONE, []), (HALF, [("ann", "bob", HALF)])):
            ledger.lend("bob", "ann", amount)
            self.assertEqual(ledger.debts(), debts)
            self.no_ring_of(ledger, "ann", "bob")
            self.no_ring_of(ledger.copy(), "ann", "bob")
            ledger.trying(lambda tried: self.no_ring_of(tried, "ann", "bob"))
        ledger.bet("ann", ["bob", "cy"], ONE)
        ledger.bet("cy", ["dee", "ann"], TWO)
        self.assertEqual(ledger.debts(), [("ann", "cy", ONE), ("bob", "ann", HALF), ("dee", "cy", TWO)])
        for one, other in itertools.combinations(NAMES, 2):
            self.no_ring_of(ledger, one, other)
        while ledger.depth():
            ledger.back()
            self.no_ring_of(ledger, "ann", "bob")

    def ring_of_three(self):
        """A ledger of a ring whose least debt was lent in part back."""
        ledger = Ledger(NAMES)
        ledger.lend("bob", "ann", (5, 1))
        ledger.lend("ann", "bob", (14, 3))
        ledger.lend("cy", "bob", (5, 1))
        ledger.bet("ann", ["cy"], (5, 1))
        return ledger

    def test_least_debt_is_one_set_off(self):
        ledger = self.ring_of_three()
        debts = [("ann", "bob", (1, 3)), ("bob", "cy", (5, 1)), ("cy", "ann", (5, 1))]
        rest = [("bob", "cy", (14, 3)), ("cy", "ann", (14, 3))]
        self.assertEqual((ledger.debts(), ledger.rings()), (debts, [("ann", "bob", "cy")]))
        for names in (("ann", "bob", "cy"), ["bob", "cy", "ann"], ("cy", "ann", "bob")):
            for other in (ledger, ledger.copy()):
                self.assertEqual(other.trying(lambda tried: (tried.cancel(names), tried.debts(), tried.rings())),
                                 ((1, 3), rest, []))
                self.assertEqual((other.debts(), other.rings(), other.depth()), (debts, [("ann", "bob", "cy")], 4))
        self.assertEqual(ledger.cancel(("ann", "bob", "cy")), (1, 3))
        self.refused(NoRing, {}, ledger.cancel, ("ann", "bob", "cy"))
        self.assertEqual((ledger.debts(), ledger.rings(), ledger.depth()), (rest, [], 5))
        ledger.back()
        self.assertEqual((ledger.debts(), ledger.rings(), ledger.depth()), (debts, [("ann", "bob", "cy")], 4))

    def test_rings_end_and_turn_with_their_debts(self):
        ledger = self.ring_of_three()
        ledger.lend("ann", "bob", (1, 3))
        self.assertEqual((ledger.debts(), ledger.rings()), ([("bob", "cy", (5, 1)), ("cy", "ann", (5, 1))], []))
        self.refused(NoRing, {}, ledger.cancel, ("ann", "bob", "cy"))
        ledger.lend("ann", "bob", ONE)
        self.assertEqual((ledger.debts()[0], ledger.rings()), (("bob", "ann", ONE), []))
        self.refused(NoRing, {}, ledger.cancel, ("ann", "bob", "cy"))
        self.refused(NoRing, {}, ledger.cancel, ("ann", "cy", "bob"))
        ledger.lend("bob", "cy", (6, 1))
        self.refused(NoRing, {}, ledger.cancel, ("ann", "cy", "bob"))
        ledger.bet("cy", ["ann", "dee"], (7, 1))
        self.assertEqual(ledger.debts(), [("ann", "cy", TWO), ("bob", "ann", ONE), ("cy", "bob", ONE), ("dee", "cy", (7, 1))])
        self.assertEqual(ledger.rings(), [("ann", "cy", "bob")])
        self.refused(NoRing, {}, ledger.cancel, ("ann", "bob", "cy"))
        self.assertEqual(ledger.cancel(["bob", "ann", "cy"]), ONE)
        self.assertEqual(ledger.debts(), [("ann", "cy", ONE), ("dee", "cy", (7, 1))])

    def test_lent_behind_a_ring(self):
        # A debt that a ring took off begins anew, to either side.
        ledger = self.ring_of_three()
        ledger.cancel(("ann", "bob", "cy"))
        ledger.lend("ann", "bob", HALF)
        self.assertEqual((ledger.debts()[0], ledger.rings()), (("bob", "ann", HALF), []))
        ledger.lend("bob", "ann", ONE)
        self.assertEqual((ledger.debts()[0], ledger.rings()), (("ann", "bob", HALF), [("ann", "bob", "cy")]))
        self.assertEqual(ledger.cancel(["cy", "ann", "bob"]), HALF)
        self.assertEqual(ledger.debts(), [("bob", "cy", (25, 6)), ("cy", "ann", (25, 6))])

    def test_ring_of_more(self):
        ledger = Ledger(NAMES)
        ledger.lend("bob", "ann", HALF)
        ledger.lend("cy", "bob", (2, 3))
        ledger.lend("dee", "cy", (1, 3))
        ledger.lend("ann", "dee", (3, 2))
        self.assertEqual(ledger.rings(), [("ann", "bob", "cy", "dee")])
        self.refused(NoRing, {}, ledger.cancel, ("dee", "cy", "bob", "ann"))
        nets = ledger.nets()
        self.assertEqual(ledger.cancel(["cy", "dee", "ann", "bob"]), (1, 3))
        self.assertEqual(ledger.debts(), [("ann", "bob", (1, 6)), ("bob", "cy", (1, 3)), ("dee", "ann", (7, 6))])
        self.assertEqual(ledger.nets(), nets)
        self.assertEqual(ledger.rings(), [])

    def test_all_rings_of_eight(self):
        names = ("h", "b", "a", "d", "c", "f", "e", "g")
        ledger, model = Ledger(names), Model(names)
        chance = random.Random(117)
        for one, other in itertools.permutations(names, 2):
            amount = some_amount(chance)
            ledger.lend(one, other, amount)
            model.add(other, one, reference.fraction(amount))
        self.assertEqual(ledger.rings(), model.rings())
        self.assertGreater(len(ledger.rings()), 100)
        self.assertEqual([type(ledger.rings()), type(ledger.rings()[0])], [list, tuple])
        for name in names:
            ledger.bet(name, [other for other in names if other != name], ONE)
        self.assertEqual(ledger.rings(), model.rings())
        self.assertEqual({len(ring) for ring in ledger.rings()}, {3, 4, 5, 6, 7, 8})
        self.assertEqual(sorted(ledger.rings()), ledger.rings())

    def test_nine_names(self):
        ledger = Ledger(("a", "b", "c", "d", "e", "f", "g", "h", "i"))
        self.refused(TooMany, {"most": 8}, ledger.rings)
        ledger.bet("a", ["b"], ONE)
        ledger.bet("b", ["i"], ONE)
        ledger.bet("i", ["a"], ONE)
        self.refused(TooMany, {"most": 8}, ledger.rings)
        self.assertEqual(ledger.cancel(("a", "i", "b")), ONE)
        self.assertEqual(ledger.debts(), [])
        self.refused(TooMany, {"most": 8}, Ledger(FORTY).rings)


class TestBack(Checks, unittest.TestCase):
    def test_back(self):
        chance = random.Random(113)
        for _ in range(20):
            names = tuple(chance.sample(["ann", "b", "cy", "dee", "ed"], chance.randint(2, 5)))
            ledger, model = Ledger(names), Model(names)
            known = [told(ledger)]
            for _ in range(10):
                do_something(chance, ledger, model)
                known.append(told(ledger))
            for depth in range(10, -1, -1):
                self.assertEqual(ledger.depth(), depth)
                self.assertEqual(told(ledger), known[depth])
                if depth:
                    self.assertIs(ledger.back(), None)
            self.refused(NothingDone, {}, ledger.back)
            self.assertEqual(told(ledger), known[0])

    def test_a_bet_is_one_deed(self):
        ledger = Ledger(NAMES)
        ledger.lend("ann", "bob", ONE)
        before = told(ledger)
        ledger.bet("bob", ["ann", "cy", "dee"], TWO)
        self.assertEqual(ledger.depth(), 2)
        ledger.back()
        self.assertEqual(told(ledger), before)

    def test_more_than_a_hundred(self):
        ledger = Ledger(NAMES)
        for number in range(150):
            ledger.lend("ann", "bob", (1, number + 1))
            ledger.bet("cy", ["dee"], ONE)
        self.assertEqual(ledger.depth(), 300)
        self.assertEqual(ledger.debts()[1], ("dee", "cy", (150, 1)))
        for _ in range(298):
            ledger.back()
        self.assertEqual(ledger.debts(), [("bob", "ann", ONE), ("dee", "cy", ONE)])
        ledger.back()
        ledger.back()
        self.refused(NothingDone, {}, ledger.back)

    def test_copies(self):
        ledger = Ledger(NAMES)
        ledger.lend("ann", "bob", ONE)
        ledger.bet("bob", ["cy"], TWO)
        ledger.lend("cy", "ann", ONE)
        other = ledger.copy()
        self.assertIs(type(other), Ledger)
        self.assertEqual(told(other), told(ledger))
        other.cancel(("ann", "cy", "bob"))
        self.assertEqual((ledger.depth(), other.depth()), (3, 4))
        self.assertEqual((ledger.rings(), other.rings()), ([("ann", "cy", "bob")], []))
        for _ in range(3):
            ledger.back()
        self.refused(NothingDone, {}, ledger.back)
        self.assertEqual(other.debts(), [("cy", "bob", ONE)])
        for depth in (3, 2, 1, 0):
            other.back()
            self.assertEqual(other.depth(), depth)
        self.refused(NothingDone, {}, other.back)
        other.lend("cy", "dee", ONE)
        self.assertEqual(told(ledger), told(Ledger(NAMES)))
        self.assertEqual(list(other.nets()), list(ledger.nets()))


class TestTrying(Checks, unittest.TestCase):
    def ledger(self):
        """A ledger behind three deeds, with a ring from ann to cy to bob."""
        ledger = Ledger(NAMES)
        ledger.lend("ann", "bob", TWO)
        ledger.lend("bob", "cy", ONE)
        ledger.bet("cy", ["dee", "ann"], HALF)
        return ledger

    def test_lend_bet_and_cancel(self):
        ledger = self.ledger()
        before = told(ledger)
        seen = []

        def action(tried):
            seen.append(tried)
            tried.lend("cy", "ann", ONE)
            tried.bet("dee", ["bob"], ONE)
            seen.append(tried.cancel(("ann", "cy", "bob")))
            return tried.depth()
        self.assertEqual(ledger.trying(action), 6)
        self.assertIs(seen[0], ledger)
        self.assertEqual(seen[1], ONE)
        self.assertEqual(told(ledger), before)
        for thing in (None, 0, [], ledger, "a"):
            self.assertIs(ledger.trying(lambda tried: thing), thing)
        self.assertIs(ledger.trying(lambda tried: tried.bet("ann", ["cy"], ONE)), None)
        self.assertEqual(told(ledger), before)

    def test_what_can_be_taken_back(self):
        ledger = self.ledger()
        before = told(ledger)

        def action(tried):
            for _ in range(3):
                tried.back()
            self.refused(NothingDone, {}, tried.back)
            tried.lend("dee", "cy", TWO)
            return told(tried)
        self.assertEqual(ledger.trying(action)[0], [("cy", "dee", TWO)])
        self.assertEqual(told(ledger), before)
        for _ in range(3):
            ledger.back()
        self.refused(NothingDone, {}, ledger.back)

    def test_errors_go_on(self):
        for error in (KeyError("x"), ValueError(), NoName("ann"), NoRing(), StopIteration(), KeyboardInterrupt()):
            ledger = self.ledger()
            before = told(ledger)

            def action(tried):
                tried.back()
                tried.lend("dee", "cy", TWO)
                raise error
            with self.assertRaises(type(error)) as caught:
                ledger.trying(action)
            self.assertIs(caught.exception, error)
            self.assertEqual(told(ledger), before)
        self.refused(NoRing, {}, ledger.trying, lambda tried: [tried.back(), tried.cancel(("ann", "cy"))])
        self.assertEqual(told(ledger), before)

    def test_within_another(self):
        ledger = self.ledger()
        before = told(ledger)

        def failing(tried):
            tried.back()
            raise KeyError("inner")

        def outer(tried):
            tried.cancel(["bob", "ann", "cy"])
            middle = told(tried)
            found = tried.trying(lambda again: [again.lend("ann", "dee", ONE), again.back(), again.back(), told(again)][-1])
            self.assertEqual(found, before)
            self.assertEqual(told(tried), middle)
            self.assertRaises(KeyError, tried.trying, failing)
            self.assertEqual(told(tried), middle)
            return tried.copy()
        other = ledger.trying(outer)
        self.assertEqual(told(ledger), before)
        self.assertEqual(other.depth(), 4)
        other.back()
        self.assertEqual(told(other), before)

    def test_deep_things(self):
        ledger = self.ledger()
        for kind in (tuple, list):
            self.refused(NoAmount, {}, ledger.lend, "ann", "bob", nested(kind, 40))
        self.assertEqual(ledger.depth(), 3)


if __name__ == "__main__":
    unittest.main()
