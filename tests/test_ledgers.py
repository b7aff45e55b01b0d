"""11.1: a ledger."""

import itertools
import random
import unittest
from fractions import Fraction

from quitsways.errors import Alike, NoAmount, NoLosers, NoName, NoNames, NoRing, NothingDone, TooMany
from quitsways.evenings import Evening, measure
from quitsways.ledgers import Ledger
from quitsways.numbers import fewest
from tests import reference
from tests.strangers import Checks, nested, strangers

HALF = (1, 2)
ONE = (1, 1)
TWO = (2, 1)
NAMES = ("cy", "ann", "dee", "bob")
FORTY = tuple(one + other for one in "abcdefgh" for other in "vwxyz")
NO_AMOUNTS = [(0, 1), (-1, 1), (2, 4), (1, 0), (1, -1), (True, 1), (1, True), [1, 1], 1, "1", None, (1,), (1, 1, 1)]


def told(ledger):
    """All that a ledger tells of itself, but its evening."""
    return (ledger.debts(), ledger.nets(), ledger.depth())


class Model:
    """What each owes each, by Python's fractions: nothing is set off but what is told."""

    def __init__(self, names):
        self.names = names
        self.owing = {pair: Fraction(0) for pair in itertools.permutations(names, 2)}

    def debts(self):
        found = []
        for debtor, lender in self.owing:
            value = self.owing[debtor, lender] - self.owing[lender, debtor]
            if value > 0:
                found.append((debtor, lender, reference.amount(value)))
        return sorted(found)

    def net(self, name):
        due = sum(value for (_, lender), value in self.owing.items() if lender == name)
        return due - sum(value for (debtor, _), value in self.owing.items() if debtor == name)

    def ring(self, names):
        """The debts along some unlike names, the last one's to the first one behind them."""
        return [(names[k - 1], names[k]) for k in range(len(names))]

    def rings(self):
        return sorted(names for many in range(2, len(self.names) + 1)
                      for names in itertools.permutations(self.names, many)
                      if names[0] == min(names) and all(self.owing[pair] > 0 for pair in self.ring(names)))


def some_amount(chance):
    return reference.amount(Fraction(chance.randint(1, 6), chance.randint(1, 4)))


def do_something(chance, ledger, model):
    """Let a ledger and its model do the same, drawn deed, and give the ledger's method's name."""
    kind = chance.choice(["lend", "lend", "bet", "cancel"])
    if kind == "lend":
        one, other = chance.sample(model.names, 2)
        amount = some_amount(chance)
        assert ledger.lend(one, other, amount) is None
        model.owing[other, one] += reference.fraction(amount)
    elif kind == "bet":
        winner, *losers = chance.sample(model.names, chance.randint(2, len(model.names)))
        amount = some_amount(chance)
        assert ledger.bet(winner, chance.choice([list, tuple])(losers), amount) is None
        for loser in losers:
            model.owing[loser, winner] += reference.fraction(amount)
    else:
        rings = model.rings()
        if not rings:
            return do_something(chance, ledger, model)
        ring = chance.choice(rings)
        turn = chance.randrange(len(ring))
        least = min(model.owing[pair] for pair in model.ring(ring))
        assert ledger.cancel(chance.choice([list, tuple])(ring[turn:] + ring[:turn])) == reference.amount(least)
        for pair in model.ring(ring):
            model.owing[pair] -= least
    return kind


class TestNames(Checks, unittest.TestCase):
    def test_names(self):
        for names in (("a", "b"), ("b", "a"), NAMES, FORTY, ("abcdefgh", "z"), ("zzzzzzzz", "aaaaaaaa"), ("ok", "none")):
            self.assertEqual(Ledger(names).nets(), {name: (0, 1) for name in names})
            self.assertEqual(told(Ledger(names)), ([], {name: (0, 1) for name in names}, 0))
            self.assertIs(Ledger(names).evening(), None)

    def test_no_names(self):
        wrong = [["ann", "bob"], ("ann",), (), ("ann", "bob", "ann"), ("ann", "ann"), FORTY + ("aa",), FORTY * 2, "ab",
                 ("ann", ""), ("", "bob"), ("ann", "abcdefghi"), ("Ann", "bob"), ("ann", "boB"), ("ann", "bob\n"),
                 ("ann\n", "bob"), ("ann", "b b"), ("ann", " bob"), ("ann", "bob "), ("ann", "b1"), ("ann", "b-b"),
                 ("ann", "bob\t"), ("ann", "b_b"), ("ann", "b\u00e4"), ("ann", "\u0431"), ("ann", "\uff41"), ("ann", "\n"),
                 ("ann", 1), (1, 2), ("ann", None), ("ann", b"bob"), ("ann", ("bob",)), ("ann", ["bob"]), (("ann", "bob"),),
                 {"ann": 1, "bob": 2}, {"ann": 1}.keys(), ("ann", True), ("a`", "b"), ("a{", "b"), ("a@", "b"), ("aZ", "b")]
        for thing in wrong + strangers():
            if thing != ("a", "b"):
                self.refused(NoNames, {}, Ledger, thing)

    def test_equal_to_nothing_else(self):
        ledger = Ledger(NAMES)
        for thing in strangers() + [NAMES, ledger.debts(), ledger.nets()]:
            self.assertFalse(ledger == thing)
            self.assertTrue(ledger != thing)


class TestDeeds(Checks, unittest.TestCase):
    def test_lend(self):
        ledger = Ledger(NAMES)
        self.assertIs(ledger.lend("ann", "bob", TWO), None)
        self.assertEqual(ledger.debts(), [("bob", "ann", TWO)])
        self.assertEqual(ledger.nets(), {"cy": (0, 1), "ann": TWO, "dee": (0, 1), "bob": (-2, 1)})
        ledger.lend("ann", "bob", HALF)
        self.assertEqual(ledger.debts(), [("bob", "ann", (5, 2))])
        ledger.lend("bob", "ann", ONE)
        self.assertEqual(ledger.debts(), [("bob", "ann", (3, 2))])
        ledger.lend("bob", "ann", (3, 2))
        self.assertEqual(ledger.debts(), [])
        self.assertEqual(ledger.nets(), {name: (0, 1) for name in NAMES})
        self.assertIs(ledger.evening(), None)
        ledger.lend("bob", "ann", (1, 3))
        self.assertEqual(ledger.debts(), [("ann", "bob", (1, 3))])
        self.assertEqual(ledger.depth(), 5)

    def test_bet(self):
        ledger = Ledger(NAMES)
        self.assertIs(ledger.bet("cy", ["dee", "ann"], HALF), None)
        self.assertEqual(ledger.debts(), [("ann", "cy", HALF), ("dee", "cy", HALF)])
        self.assertEqual(ledger.nets(), {"cy": ONE, "ann": (-1, 2), "dee": (-1, 2), "bob": (0, 1)})
        ledger.bet("ann", ("cy",), ONE)
        self.assertEqual(ledger.debts(), [("cy", "ann", HALF), ("dee", "cy", HALF)])
        ledger.bet("bob", ("cy", "ann", "dee"), TWO)
        self.assertEqual(ledger.debts(), [("ann", "bob", TWO), ("cy", "ann", HALF), ("cy", "bob", TWO), ("dee", "bob", TWO),
                                          ("dee", "cy", HALF)])

    def test_errors_of_lend_in_order(self):
        ledger = Ledger(NAMES)
        ledger.lend("ann", "bob", ONE)
        before = told(ledger)
        for thing in ["eve", "", "Ann", "ann ", "ann\n", b"ann", ("ann",), ["ann"]] + strangers():
            for other in NAMES + ("eve", None):
                for amount in (ONE, None, (0, 1)):
                    self.no_name(thing, ledger.lend, thing, other, amount)
            self.no_name(thing, ledger.lend, "ann", thing, ONE)
            self.no_name(thing, ledger.lend, "ann", thing, thing)
        self.no_name("eve", ledger.lend, "eve", "eve", ONE)
        for amount in [ONE] + NO_AMOUNTS:
            self.refused(Alike, {}, ledger.lend, "bob", "bob", amount)
        for amount in NO_AMOUNTS + strangers():
            self.refused(NoAmount, {}, ledger.lend, "ann", "bob", amount)
        self.assertEqual(told(ledger), before)

    def test_errors_of_bet_in_order(self):
        ledger = Ledger(NAMES)
        ledger.lend("ann", "bob", ONE)
        before = told(ledger)
        no_losers = [(), [], ("bob", "bob"), ["bob", "cy", "bob"], ("ann",), ("bob", "ann"), ["ann", "ann"], "bob", "b", "",
                     {"bob": 1}, {}, None, 0, b"bob", {"bob": 1}.keys(), iter(["bob"]), range(0), Evening((ONE,), (ONE,))]
        for thing in ["eve", "", "Ann", b"ann", ("ann",)] + strangers():
            self.no_name(thing, ledger.bet, thing, ["bob"], ONE)
            self.no_name(thing, ledger.bet, thing, ["eve"], None)
            self.no_name(thing, ledger.bet, thing, None, None)
            self.no_name(thing, ledger.bet, "ann", ["bob", thing], ONE)
            self.no_name(thing, ledger.bet, "ann", ("bob", "bob", "ann", thing, "eve"), None)
            self.no_name(thing, ledger.bet, "ann", (thing, thing), (0, 1))
        for losers in no_losers:
            for amount in (ONE, (0, 1), None):
                self.refused(NoLosers, {}, ledger.bet, "ann", losers, amount)
        for thing in strangers():
            if not isinstance(thing, (list, tuple)) or len(thing) == 0:
                self.refused(NoLosers, {}, ledger.bet, "ann", thing, ONE)
            else:
                self.no_name(thing[0], ledger.bet, "ann", thing, None)
        for amount in NO_AMOUNTS + strangers():
            self.refused(NoAmount, {}, ledger.bet, "ann", ["bob", "cy"], amount)
        self.assertEqual(told(ledger), before)

    def no_name(self, thing, method, *arguments):
        """The call raises NoName with the very thing."""
        with self.assertRaises(NoName) as caught:
            method(*arguments)
        self.assertIs(type(caught.exception), NoName)
        self.assertEqual(list(vars(caught.exception)), ["name"])
        self.assertIs(caught.exception.name, thing)

    def test_errors_of_cancel_in_order(self):
        ledger = Ledger(NAMES)
        ledger.bet("ann", ["bob", "cy"], ONE)
        ledger.bet("bob", ["cy"], ONE)
        ledger.bet("cy", ["ann"], TWO)
        before = told(ledger)
        for thing in ["eve", "", "Ann", b"ann", ("ann",)] + strangers():
            for names in ([thing], (thing, "ann"), ["ann", "ann", thing, "eve"], ("ann", "bob", thing), [thing, thing]):
                self.no_name(thing, ledger.cancel, names)
        for thing in strangers():
            if isinstance(thing, (list, tuple)) and len(thing) > 0:
                self.no_name(thing[0], ledger.cancel, thing)
            else:
                self.refused(NoRing, {}, ledger.cancel, thing)
        for names in ((), [], ("ann",), ["bob"], ("ann", "ann"), ("ann", "cy", "bob", "cy"), ("ann", "cy", "ann", "cy"),
                      ("ann", "bob"), ("bob", "ann"), ("ann", "bob", "cy"), ("ann", "cy", "dee"), ("ann", "dee"), "ann",
                      ("ann", "cy", "bob", "dee"), {"ann": 1, "cy": 2}, {"ann": 1, "cy": 2}.keys(), iter(["ann", "cy"]), "ab"):
            self.refused(NoRing, {}, ledger.cancel, names)
        self.assertEqual(told(ledger), before)
        self.assertEqual(ledger.rings(), [("ann", "cy"), ("ann", "cy", "bob")])

    def test_lists_can_be_changed(self):
        ledger = Ledger(NAMES)
        losers = ["ann", "bob"]
        ledger.bet("cy", losers, ONE)
        losers.clear()
        ledger.lend("dee", "cy", TWO)
        ledger.lend("ann", "dee", (3, 1))
        ring = ["ann", "cy", "dee"]
        self.assertEqual(ledger.cancel(ring), ONE)
        ring.reverse()
        ring.append("bob")
        self.assertEqual(ledger.debts(), [("bob", "cy", ONE), ("cy", "dee", ONE), ("dee", "ann", TWO)])
        for thing in (ledger.debts(), ledger.nets(), ledger.rings()):
            thing.clear()
        self.assertEqual(ledger.debts(), [("bob", "cy", ONE), ("cy", "dee", ONE), ("dee", "ann", TWO)])
        for method in (ledger.debts, ledger.nets, ledger.evening, ledger.rings, ledger.depth):
            self.unchanged(method)

    def test_forty_figures_and_beyond(self):
        ledger = Ledger(("a", "b", "c"))
        big = 10 ** 40 - 1
        ledger.lend("a", "b", (big, 1))
        ledger.lend("a", "b", (1, big))
        ledger.lend("b", "c", (big, 2))
        self.assertEqual(ledger.debts(), [("b", "a", (big * big + 1, big)), ("c", "b", (big, 2))])
        evening, names = ledger.evening()
        ledger.lend("c", "a", evening.due[0])
        self.assertEqual(ledger.nets()["a"], (0, 1))
        self.assertEqual(names, (("b", "c"), ("a",)))


class TestTold(Checks, unittest.TestCase):
    def like(self, ledger, model):
        """The ledger tells what its model has."""
        self.assertEqual(ledger.debts(), model.debts())
        nets = {name: model.net(name) for name in model.names}
        self.assertEqual(ledger.nets(), {name: reference.amount(net) for name, net in nets.items()})
        if len(model.names) <= 8:
            self.assertEqual(ledger.rings(), model.rings())
        owers = tuple(name for name in model.names if nets[name] < 0)
        takers = tuple(name for name in model.names if nets[name] > 0)
        if not owers:
            self.assertIs(ledger.evening(), None)
            return
        evening, names = ledger.evening()
        self.assertIs(type(evening), Evening)
        self.assertEqual(names, (owers, takers))
        self.assertEqual(evening.owed, tuple(reference.amount(-nets[name]) for name in owers))
        self.assertEqual(evening.due, tuple(reference.amount(nets[name]) for name in takers))
        self.assertEqual((type(ledger.evening()), type(names), type(names[0])), (tuple, tuple, tuple))

    def test_against_model(self):
        chance = random.Random(110)
        kinds = []
        for turn in range(60):
            names = tuple(chance.sample(["ann", "b", "cy", "dee", "ed", "z"], chance.randint(2, 5)))
            ledger, model = Ledger(names), Model(names)
            self.like(ledger, model)
            for _ in range(12):
                kinds.append(do_something(chance, ledger, model))
                self.like(ledger, model)
        self.assertTrue(min(kinds.count(kind) for kind in ("lend", "bet", "cancel")) > 50)

    def test_evening_of_fractions(self):
        ledger = Ledger(NAMES)
        ledger.bet("dee", ["ann", "cy"], (1, 3))
        ledger.lend("bob", "ann", (1, 6))
        evening, names = ledger.evening()
        self.assertEqual((evening.owed, evening.due), (((1, 3), HALF), ((2, 3), (1, 6))))
        self.assertEqual(names, (("cy", "ann"), ("dee", "bob")))
        self.assertEqual((measure(evening), fewest(evening)), ((1, 6), 3))

    def test_forty_names(self):
        chance = random.Random(111)
        names = tuple(chance.sample(FORTY, 40))
        ledger, model = Ledger(names), Model(names)
        for _ in range(120):
            one, other = chance.sample(names, 2)
            ledger.lend(one, other, (3, 2))
            model.owing[other, one] += Fraction(3, 2)
        ledger.bet(names[0], names[1:], ONE)
        for name in names[1:]:
            model.owing[name, names[0]] += 1
        self.like(ledger, model)
        self.assertEqual(ledger.depth(), 121)

    def test_quits_are_not_in_the_evening(self):
        ledger = Ledger(NAMES)
        ledger.lend("ann", "bob", ONE)
        ledger.lend("bob", "dee", ONE)
        self.assertEqual(ledger.debts(), [("bob", "ann", ONE), ("dee", "bob", ONE)])
        evening, names = ledger.evening()
        self.assertEqual((evening.owed, evening.due, names), ((ONE,), (ONE,), (("dee",), ("ann",))))
        self.assertEqual(ledger.nets(), {"cy": (0, 1), "ann": ONE, "dee": (-1, 1), "bob": (0, 1)})


class TestRings(Checks, unittest.TestCase):
    def test_ring_of_two(self):
        ledger = Ledger(NAMES)
        ledger.lend("ann", "bob", TWO)
        self.assertEqual(ledger.rings(), [])
        self.refused(NoRing, {}, ledger.cancel, ("ann", "bob"))
        ledger.lend("bob", "ann", ONE)
        self.assertEqual(ledger.rings(), [("ann", "bob")])
        for names in (("ann", "bob"), ["bob", "ann"]):
            self.assertEqual(ledger.trying(lambda tried: (tried.cancel(names), tried.debts(), tried.rings())),
                             (ONE, [("bob", "ann", ONE)], []))
        self.assertEqual(ledger.cancel(("bob", "ann")), ONE)
        self.refused(NoRing, {}, ledger.cancel, ("bob", "ann"))
        self.assertEqual(ledger.debts(), [("bob", "ann", ONE)])
        ledger.back()
        self.assertEqual(ledger.rings(), [("ann", "bob")])

    def test_ring_of_more(self):
        ledger = Ledger(NAMES)
        ledger.lend("bob", "ann", HALF)
        ledger.lend("cy", "bob", (2, 3))
        ledger.lend("dee", "cy", (1, 3))
        ledger.lend("ann", "dee", (3, 2))
        self.assertEqual(ledger.rings(), [("ann", "bob", "cy", "dee")])
        self.refused(NoRing, {}, ledger.cancel, ("dee", "cy", "bob", "ann"))
        nets = ledger.nets()
        self.assertEqual(ledger.cancel(["cy", "dee", "ann", "bob"]), (1, 3))
        self.assertEqual(ledger.debts(), [("ann", "bob", (1, 6)), ("bob", "cy", (1, 3)), ("dee", "ann", (7, 6))])
        self.assertEqual(ledger.nets(), nets)
        self.assertEqual(ledger.rings(), [])

    def test_all_rings_of_eight(self):
        names = ("h", "b", "a", "d", "c", "f", "e", "g")
        ledger, model = Ledger(names), Model(names)
        chance = random.Random(112)
        for one, other in itertools.permutations(names, 2):
            if chance.random() < 0.35:
                ledger.lend(one, other, ONE)
                model.owing[other, one] += 1
        self.assertEqual(ledger.rings(), model.rings())
        self.assertGreater(len(ledger.rings()), 10)
        self.assertEqual([type(ledger.rings()), type(ledger.rings()[0])], [list, tuple])
        for name in names:
            ledger.bet(name, [other for other in names if other != name], ONE)
        self.assertEqual(len(ledger.rings()), 16064)
        self.assertEqual(sorted(ledger.rings()), ledger.rings())

    def test_nine_names(self):
        ledger = Ledger(("a", "b", "c", "d", "e", "f", "g", "h", "i"))
        self.refused(TooMany, {"most": 8}, ledger.rings)
        ledger.bet("a", ["b"], ONE)
        ledger.bet("b", ["a"], ONE)
        self.refused(TooMany, {"most": 8}, ledger.rings)
        self.assertEqual(ledger.cancel(("a", "b")), ONE)
        self.refused(TooMany, {"most": 8}, Ledger(FORTY).rings)


class TestBack(Checks, unittest.TestCase):
    def test_back(self):
        chance = random.Random(113)
        for _ in range(20):
            names = tuple(chance.sample(["ann", "b", "cy", "dee", "ed"], chance.randint(2, 5)))
            ledger, model = Ledger(names), Model(names)
            known = [told(ledger)]
            for _ in range(10):
                do_something(chance, ledger, model)
                known.append(told(ledger))
            for depth in range(10, -1, -1):
                self.assertEqual(ledger.depth(), depth)
                self.assertEqual(told(ledger), known[depth])
                if depth:
                    self.assertIs(ledger.back(), None)
            self.refused(NothingDone, {}, ledger.back)
            self.assertEqual(told(ledger), known[0])

    def test_a_bet_is_one_deed(self):
        ledger = Ledger(NAMES)
        ledger.lend("ann", "bob", ONE)
        before = told(ledger)
        ledger.bet("bob", ["ann", "cy", "dee"], TWO)
        self.assertEqual(ledger.depth(), 2)
        ledger.back()
        self.assertEqual(told(ledger), before)

    def test_more_than_a_hundred(self):
        ledger = Ledger(NAMES)
        for number in range(150):
            ledger.lend("ann", "bob", (1, number + 1))
            ledger.bet("cy", ["dee"], ONE)
        self.assertEqual(ledger.depth(), 300)
        self.assertEqual(ledger.debts()[1], ("dee", "cy", (150, 1)))
        for _ in range(298):
            ledger.back()
        self.assertEqual(ledger.debts(), [("bob", "ann", ONE), ("dee", "cy", ONE)])
        ledger.back()
        ledger.back()
        self.refused(NothingDone, {}, ledger.back)

    def test_copies(self):
        ledger = Ledger(NAMES)
        ledger.lend("ann", "bob", ONE)
        ledger.lend("bob", "ann", TWO)
        other = ledger.copy()
        self.assertIs(type(other), Ledger)
        self.assertEqual(told(other), told(ledger))
        other.cancel(("ann", "bob"))
        self.assertEqual((ledger.depth(), other.depth()), (2, 3))
        self.assertEqual(ledger.rings(), [("ann", "bob")])
        ledger.back()
        ledger.back()
        self.refused(NothingDone, {}, ledger.back)
        self.assertEqual(other.debts(), [("ann", "bob", ONE)])
        for depth in (2, 1, 0):
            other.back()
            self.assertEqual(other.depth(), depth)
        self.refused(NothingDone, {}, other.back)
        other.lend("cy", "dee", ONE)
        self.assertEqual(told(ledger), told(Ledger(NAMES)))
        self.assertEqual(list(other.nets()), list(ledger.nets()))


class TestTrying(Checks, unittest.TestCase):
    def ledger(self):
        """A ledger behind three deeds."""
        ledger = Ledger(NAMES)
        ledger.lend("ann", "bob", TWO)
        ledger.lend("bob", "ann", ONE)
        ledger.bet("cy", ["dee", "ann"], HALF)
        return ledger

    def test_lend_bet_and_cancel(self):
        ledger = self.ledger()
        before = told(ledger)
        seen = []

        def action(tried):
            seen.append(tried)
            tried.lend("cy", "bob", ONE)
            tried.bet("dee", ["bob"], ONE)
            seen.append(tried.cancel(("ann", "bob")))
            return tried.depth()
        self.assertEqual(ledger.trying(action), 6)
        self.assertIs(seen[0], ledger)
        self.assertEqual(seen[1], ONE)
        self.assertEqual(told(ledger), before)
        for thing in (None, 0, [], ledger, "a"):
            self.assertIs(ledger.trying(lambda tried: thing), thing)
        self.assertIs(ledger.trying(lambda tried: tried.bet("ann", ["cy"], ONE)), None)
        self.assertEqual(told(ledger), before)

    def test_what_can_be_taken_back(self):
        ledger = self.ledger()
        before = told(ledger)

        def action(tried):
            for _ in range(3):
                tried.back()
            self.refused(NothingDone, {}, tried.back)
            tried.lend("dee", "cy", TWO)
            return told(tried)
        self.assertEqual(ledger.trying(action)[0], [("cy", "dee", TWO)])
        self.assertEqual(told(ledger), before)
        for _ in range(3):
            ledger.back()
        self.refused(NothingDone, {}, ledger.back)

    def test_errors_go_on(self):
        for error in (KeyError("x"), ValueError(), NoName("ann"), NoRing(), StopIteration(), KeyboardInterrupt()):
            ledger = self.ledger()
            before = told(ledger)

            def action(tried):
                tried.back()
                tried.lend("dee", "cy", TWO)
                raise error
            with self.assertRaises(type(error)) as caught:
                ledger.trying(action)
            self.assertIs(caught.exception, error)
            self.assertEqual(told(ledger), before)
        self.refused(NoRing, {}, ledger.trying, lambda tried: [tried.back(), tried.cancel(("ann", "cy"))])
        self.assertEqual(told(ledger), before)

    def test_within_another(self):
        ledger = self.ledger()
        before = told(ledger)

        def failing(tried):
            tried.back()
            raise KeyError("inner")

        def outer(tried):
            tried.cancel(["bob", "ann"])
            middle = told(tried)
            found = tried.trying(lambda again: [again.lend("ann", "dee", ONE), again.back(), again.back(), told(again)][-1])
            self.assertEqual(found, before)
            self.assertEqual(told(tried), middle)
            self.assertRaises(KeyError, tried.trying, failing)
            self.assertEqual(told(tried), middle)
            return tried.copy()
        other = ledger.trying(outer)
        self.assertEqual(told(ledger), before)
        self.assertEqual(other.depth(), 4)
        other.back()
        self.assertEqual(told(other), before)

    def test_deep_things(self):
        ledger = self.ledger()
        for kind in (tuple, list):
            self.refused(NoAmount, {}, ledger.lend, "ann", "bob", nested(kind, 40))
        self.assertEqual(ledger.depth(), 3)


if __name__ == "__main__":
    unittest.main()
