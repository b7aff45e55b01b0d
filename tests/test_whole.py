"""0.2 to 0.5: what is promised of all of the program."""

import copy
import importlib
import re
import unittest

from quitsways import alike, cheapest, counting, drawings, draws, errors, evenings, games, ladders, numbers, pairs, parts, payers
from quitsways import queues, reading, settlements, texts, ways, webs
from quitsways.desk import Desk
from quitsways.errors import (Alike, BadEvening, BadText, NoAmount, NoDrawing, NoEvenings, NoFraction, NoLine, NoLosers, NoName,
                              NoNames, NoNumber, NoOrder, NoPair, NoPerson, NoPrices, NoRing, NoRow, NoRule, NoSettlement, NotEven,
                              NotSettled, NoWay, NoWeb, NoWish, QuitsError)
from quitsways.evenings import Evening
from quitsways.ledgers import Ledger
from quitsways.sittings import Sitting
from tests.strangers import Checks, nested, strangers
from tests.test_language import INTERFACE

ONE = (1, 1)
TWO = (2, 1)
P = Evening((TWO, ONE, ONE), (TWO, ONE, ONE))
Q = Evening((ONE, (3, 1)), (TWO, TWO))
WAY = ((0, 1), (0, 0), (1, 0), (2, 2))
PAIRS = tuple((ower, taker) for ower in range(3) for taker in range(3))
PRICES = ((3, 1, 2), (1, 3, 2), (2, 2, 3))
SETTLEMENT = settlements.settled(P, WAY)
BOUND = cheapest.bound(P, PRICES)
LADDER = ladders.ladder(P)
NAMES = ("ann", "bob", "cy")
ORDER = (0, 2, 1)


def front(left):
    """The least pair that can pay."""
    return min((ower, taker) for ower, rest in enumerate(left[0]) for taker, other in enumerate(left[1])
               if rest[0] and other[0])


def ledger():
    """A ledger with a ring: each of its people owes the next one."""
    made = Ledger(NAMES)
    made.lend("bob", "ann", TWO)
    made.lend("cy", "bob", ONE)
    made.lend("ann", "cy", ONE)
    return made


def desk():
    """A desk with an evening."""
    made = Desk()
    made.tell("evening p owed 2 1 1|due 2 1 1|")
    return made


# Functions that judge their last argument, the arguments ahead of it, and something that is right.
JUDGES = [
    (evenings.is_group, (P,), ((0,), ())), (evenings.is_even, (P,), ((0,), (0,))), (ways.is_row, (P,), WAY[:2]),
    (ways.is_way, (P,), WAY), (drawings.is_drawing, (P,), tuple(sorted(WAY))),
    (parts.is_parting, (P,), (((0,), (0,)), ((1, 2), (1, 2)))), (ladders.is_ladder, (P, 3), LADDER),
    (settlements.is_settlement, (P,), SETTLEMENT), (settlements.is_mixture, (P, SETTLEMENT), [(ONE, WAY)]),
    (cheapest.is_bound, (P, PRICES, (-9, 1)), BOUND), (webs.is_web, (P,), PAIRS[1:]), (webs.is_cut, (P, PAIRS[1:5]), (2,)),
    (webs.is_stuck, (P, tuple(sorted(WAY))), ((0, 0),)),
]

# Calls, the place of an argument for which errors are named, and these errors (with those that can come behind them).
ARGUMENTS = [
    (Evening, (P.owed, P.due), 0, (BadEvening,)), (Evening, (P.owed, P.due), 1, (BadEvening,)),
    (evenings.scaled, (P, TWO), 1, (NoAmount,)), (evenings.part, (P, ((0,), (0,))), 1, (NotEven,)),
    (ways.rests, (P, WAY), 1, (NoRow,)), (ways.paid, (P, WAY), 1, (NoRow,)),
    (drawings.doubles, (P, WAY), 1, (NoWay,)), (drawings.pieces, (P, WAY), 1, (NoWay,)), (drawings.drawing, (P, WAY), 1, (NoWay,)),
    (drawings.way_for, (P, tuple(sorted(WAY))), 1, (NoDrawing,)), (drawings.many_ways_for, (P, tuple(sorted(WAY))), 1, (NoDrawing,)),
    (ladders.is_ladder, (P, 3, LADDER), 1, (NoNumber,)), (numbers.can_have, (P, 3), 1, (NoNumber,)),
    (numbers.way_of, (P, 3), 1, (NoNumber,)), (numbers.loaves, (3, 4), 0, (NoNumber,)), (numbers.loaves, (3, 4), 1, (NoNumber,)),
    (settlements.settled, (P, WAY), 1, (NoWay,)), (settlements.mixture, (P, SETTLEMENT), 1, (NoSettlement,)),
    (settlements.is_mixture, (P, SETTLEMENT, []), 1, (NoSettlement,)),
    (cheapest.cost, (P, PRICES, SETTLEMENT), 1, (NoPrices,)), (cheapest.cost, (P, PRICES, SETTLEMENT), 2, (NoSettlement,)),
    (cheapest.cheapest, (P, PRICES), 1, (NoPrices,)), (cheapest.bound, (P, PRICES), 1, (NoPrices,)),
    (cheapest.is_bound, (P, PRICES, ONE, BOUND), 1, (NoPrices,)), (cheapest.is_bound, (P, PRICES, ONE, BOUND), 2, (NoFraction,)),
    (pairs.can_pass, (P, 0, 0, ONE), 1, (NoPerson,)), (pairs.can_pass, (P, 0, 0, ONE), 2, (NoPerson,)),
    (pairs.can_pass, (P, 0, 0, ONE), 3, (NoAmount,)), (pairs.passing, (P, 0, 0), 1, (NoPerson,)),
    (pairs.passing, (P, 0, 0), 2, (NoPerson,)), (pairs.way_passing, (P, 0, 0, ONE), 1, (NoPerson,)),
    (pairs.way_passing, (P, 0, 0, ONE), 2, (NoPerson,)), (pairs.way_passing, (P, 0, 0, ONE), 3, (NoAmount,)),
    (pairs.without, (P, 0, 0), 1, (NoPerson,)), (pairs.without, (P, 0, 0), 2, (NoPerson,)),
    (pairs.most_by, (P, 0), 1, (NoPerson,)), (pairs.least_by, (P, 0), 1, (NoPerson,)),
    (webs.can_settle, (P, PAIRS), 1, (NoWeb,)), (webs.settle, (P, PAIRS), 1, (NoWeb,)), (webs.cut, (P, PAIRS), 1, (NoWeb,)),
    (webs.is_cut, (P, PAIRS, ()), 1, (NoWeb,)), (webs.stuck, (P, PAIRS), 1, (NoWeb, NotSettled)),
    (webs.is_stuck, (P, PAIRS, ()), 1, (NoWeb, NotSettled)), (webs.is_safe, (P, PAIRS), 1, (NoWeb, NotSettled)),
    (webs.missing, (P, PAIRS), 1, (NoWeb,)), (webs.web_numbers, (P, PAIRS), 1, (NoWeb,)), (webs.safer, (P, PAIRS), 1, (NoWeb,)),
    (queues.queue_way, (P, ORDER, ORDER), 1, (NoOrder,)), (queues.queue_way, (P, ORDER, ORDER), 2, (NoOrder,)),
    (queues.queue_number, (P, ORDER, ORDER), 1, (NoOrder,)), (queues.queue_number, (P, ORDER, ORDER), 2, (NoOrder,)),
    (lambda *told: Sitting(P).pay(*told), (0, 0), 0, (NoPerson,)), (lambda *told: Sitting(P).pay(*told), (0, 0), 1, (NoPerson,)),
    (lambda *told: Sitting(P).toward(*told), (3,), 0, (NoNumber,)), (lambda names: Ledger(names).debts(), (NAMES,), 0, (NoNames,)),
    (lambda *told: ledger().lend(*told), ("ann", "bob", ONE), 0, (NoName, Alike)),
    (lambda *told: ledger().lend(*told), ("ann", "bob", ONE), 1, (NoName, Alike)),
    (lambda *told: ledger().lend(*told), ("ann", "bob", ONE), 2, (NoAmount,)),
    (lambda *told: ledger().bet(*told), ("ann", ["bob"], ONE), 0, (NoName, NoLosers)),
    (lambda *told: ledger().bet(*told), ("ann", ["bob"], ONE), 1, (NoName, NoLosers)),
    (lambda *told: ledger().bet(*told), ("ann", ["bob"], ONE), 2, (NoAmount,)),
    (lambda *told: ledger().cancel(*told), (["ann", "bob", "cy"],), 0, (NoName, NoRing)),
    (counting.way_at, (P, 3), 1, (NoNumber,)), (counting.way_number, (P, WAY), 1, (NoWay,)),
    (draws.likely, (P, 0, 0), 1, (NoPerson,)), (draws.likely, (P, 0, 0), 2, (NoPerson,)),
    (games.reply, (P, (), 0, "few"), 1, (NoRow, NoPerson)), (games.reply, (P, (), 0, "few"), 2, (NoPerson,)),
    (games.reply, (P, (), 0, "few"), 3, (NoWish,)), (payers.worst, (front, [P, Q]), 1, (NoEvenings,)),
    (payers.rule_way, (P, "least"), 1, (NoRule,)), (reading.read_evening, ("owed 1\ndue 1\n",), 0, (BadText, BadEvening)),
    (reading.read_row, (P, "0 0\n"), 1, (BadText, NoRow)),
    (lambda *told: desk().tell(*told), ("names",), 0, (NoLine, NoName, BadText, BadEvening)),
]

# All other functions, which take nothing but right things.
OTHERS = [
    (evenings.total, (P,)), (evenings.measure, (P,)), (evenings.people, (P,)), (evenings.mirrored, (P,)), (evenings.joined, (P, Q)),
    (ways.led, (P, front)), (parts.most_parts, (P,)), (parts.parting, (P,)), (parts.partings, (P,)), (parts.even_groups, (P,)),
    (parts.least_groups, (P,)), (ladders.ladder, (P,)), (numbers.fewest, (P,)), (numbers.greatest, (P,)), (numbers.short_way, (P,)),
    (numbers.long_way, (P,)), (alike.unit_of, (P,)), (alike.unlike_ways, (P,)), (alike.is_alike, (P,)), (pairs.surely, (P,)),
    (queues.queue_least, (P,)), (queues.queue_most, (P,)), (queues.queue_unit, (P,)), (queues.unlike_queues, (P,)),
    (queues.queues_alike, (P,)), (counting.many_ways, (P,)), (counting.ways_by_number, (P,)), (counting.all_ways, (P,)),
    (counting.drawings, (P,)), (draws.shares, (P,)), (draws.mean, (P,)), (games.game, (P,)), (payers.tried, (P, front)),
    (texts.evening_text, (P,)), (texts.row_text, (WAY,)),
]


def wrapped(thing):
    """A thing in many places."""
    return [thing, (thing,), [thing], (thing, 0), (0, thing), (0, 0, thing), ((0, 0), thing), ((thing, 0),), ((0, thing),),
            ((thing,), (0,)), ((0,), (thing,)), (((0,), (0,)), ((1, 2), (1, thing))), [(ONE, thing)], [(thing, WAY)],
            WAY[:3] + (thing,), WAY[:3] + ((2, thing),), SETTLEMENT[:2] + (thing,), SETTLEMENT[:2] + (((0, 1), thing, ONE),),
            SETTLEMENT[:2] + (((0, 1), (0, thing), ONE),), PRICES[:2] + ((1, 2, thing),), {thing if is_key(thing) else 0: 0},
            {((0,), ()): thing}, {key: thing if key == ((0,), (0,)) else LADDER[key] for key in LADDER}, [P, thing],
            (BOUND[0], thing), (BOUND[0], BOUND[1][:2] + (thing,)), ["bob", thing], ("ann", "bob", thing), PAIRS[:4] + (thing,),
            (ONE, ONE, TWO, thing), (1, thing), (thing, 1), (0, 2, thing), (ONE, (thing, 2), ONE), ((thing, thing), thing)]


def is_key(thing):
    """Whether a thing can be a key of a dict."""
    try:
        hash(thing)
    except TypeError:
        return False
    return True


def odd_things():
    """Strangers, right things, and all of them in many places."""
    simple = strangers() + [thing for _, _, thing in JUDGES] + ["ann", "few", "least", "names", "|", "\n", " "]
    for thing in simple:
        for each in wrapped(thing) if not is_long(thing) else wrapped(thing)[:9]:
            yield each


def is_long(thing):
    return isinstance(thing, (tuple, list, dict, str)) and len(thing) > 1000


class TestWholeInterface(Checks, unittest.TestCase):
    def test_each_function_is_tried_here(self):
        named = {function.__name__ for function, *_ in JUDGES + ARGUMENTS + OTHERS} | {"Ledger", "Sitting", "Desk"}
        for module, listed in INTERFACE.items():
            for name in re.findall(r"(\w+)\(", listed):
                self.assertIn(name, named, module)

    def test_each_error(self):
        found = {name for name, thing in vars(errors).items() if isinstance(thing, type)}
        for name in found - {"QuitsError"}:
            self.assertEqual(getattr(errors, name).__bases__, (QuitsError,))
        self.assertEqual(QuitsError.__bases__, (ValueError,))

    def test_nothing_of_clocks_chance_or_files(self):
        for module in INTERFACE:
            loaded = importlib.import_module("quitsways." + module)
            self.assertEqual([name for name in ("time", "random", "os", "sys", "open") if name in vars(loaded)], [])


class TestOddThings(Checks, unittest.TestCase):
    def test_judges(self):
        for function, ahead, right in JUDGES:
            self.flag(True, function, *ahead, right)
            for thing in odd_things():
                answer = function(*ahead, thing)
                self.assertIs(type(answer), bool, function.__name__)
                if not isinstance(thing, type(right)):
                    self.assertIs(answer, False)

    def test_arguments(self):
        for function, arguments, place, named in ARGUMENTS:
            function(*arguments)
            right = arguments[place]
            kinds = (list, tuple) if isinstance(right, list) else (type(right),)
            for thing in odd_things():
                try:
                    function(*arguments[:place], thing, *arguments[place + 1:])
                    wrong = None
                except QuitsError as error:
                    wrong = type(error)
                self.assertIn(wrong, named + ((None,) if type(thing) in kinds else ()), (function.__name__, place))

    def test_what_functions_give(self):
        for thing in odd_things():
            if thing not in PAIRS:
                self.refused(NoPair, {"place": 0}, ways.led, P, lambda left: thing)
                self.assertEqual(payers.tried(P, lambda left: thing), ((), "stopped", 0))
                self.assertEqual(payers.worst(lambda left: thing, [P]), 0)

    def test_as_deep_as_can_be(self):
        for kind in (tuple, list, dict):
            deep = nested(kind, 40)
            for function, arguments, place, named in ARGUMENTS:
                with self.assertRaises(named):
                    function(*arguments[:place], deep, *arguments[place + 1:])
            for function, ahead, _ in JUDGES:
                self.flag(False, function, *ahead, deep)


class TestEqualCalls(Checks, unittest.TestCase):
    def test_all(self):
        calls = [(function, arguments) for function, arguments, *_ in ARGUMENTS] + OTHERS
        calls += [(function, ahead + (right,)) for function, ahead, right in JUDGES]
        for function, arguments in calls:
            before = copy.deepcopy([vars(each) if isinstance(each, Evening) else each for each in arguments])
            first = function(*arguments)
            second = function(*arguments)
            self.assertEqual(first, second)
            self.assertIs(type(first), type(second))
            if isinstance(first, (list, dict)):
                first.clear()
                self.assertEqual(function(*arguments), second)
            self.assertEqual([vars(each) if isinstance(each, Evening) else each for each in arguments], before)


if __name__ == "__main__":
    unittest.main()
