"""2.1: rows and ways."""

import random
import unittest

from quitsways.errors import NoPair, NoRow, NoWay, QuitsError
from quitsways.evenings import Evening
from quitsways.ways import is_row, is_way, led, paid, rests
from tests import reference
from tests.strangers import Checks, strangers

ONE = (1, 1)
TWO = (2, 1)
NOUGHT = (0, 1)
P = Evening((TWO, ONE, ONE), (TWO, ONE, ONE))
Q = Evening((ONE, (3, 1)), (TWO, TWO))
H = Evening(((1, 2), (1, 3)), ((5, 6),))
BIG = 10 ** 40 - 1
WRONG_PAIRS = [
    (0, 2), (2, 0), (-1, 0), (0, -1), (-1, -1), (10 ** 40, 0), (0, 10 ** 40), (True, 0), (0, True), (False, False),
    (0, False), (False, 0), [0, 0], (0,), (0, 0, 0), (), "00", ("0", "0"), (0, None), (None, 0), 0, None,
    ((0,), (0,)), ((0, 0),), {0: 0, 1: 0}, range(2), b"\0\0",
]


class TestRows(Checks, unittest.TestCase):
    def test_empty_row(self):
        self.assertEqual(rests(Q, ()), (Q.owed, Q.due))
        self.assertEqual(rests(H, ()), (((1, 2), (1, 3)), ((5, 6),)))
        self.assertEqual(paid(Q, ()), ())
        self.flag(True, is_row, Q, ())
        self.flag(False, is_way, Q, ())

    def test_rests(self):
        self.assertEqual(rests(Q, ((0, 0),)), ((NOUGHT, (3, 1)), (ONE, TWO)))
        self.assertEqual(rests(Q, ((0, 0), (1, 1))), ((NOUGHT, ONE), (ONE, NOUGHT)))
        self.assertEqual(rests(Q, ((0, 0), (1, 1), (1, 0))), ((NOUGHT, NOUGHT), (NOUGHT, NOUGHT)))
        self.assertEqual(rests(H, ((1, 0),)), (((1, 2), NOUGHT), ((1, 2),)))
        self.assertEqual(rests(H, ((0, 0),)), ((NOUGHT, (1, 3)), ((1, 3),)))
        self.plain(rests(H, ((0, 0),)))

    def test_paid(self):
        self.assertEqual(paid(Q, ((0, 0), (1, 1), (1, 0))), (ONE, TWO, ONE))
        self.assertEqual(paid(Q, ((1, 0), (0, 1))), (TWO, ONE))
        self.assertEqual(paid(H, ((1, 0), (0, 0))), ((1, 3), (1, 2)))
        self.plain(paid(H, ((1, 0), (0, 0))))

    def test_large(self):
        evening = Evening(((1, BIG), (1, BIG - 1)), ((1, BIG - 1), (1, BIG)))
        self.assertEqual(paid(evening, ((0, 0), (1, 1), (1, 0))),
                         ((1, BIG), (1, BIG), (1, BIG * (BIG - 1))))
        self.assertEqual(rests(evening, ((1, 1), (0, 0)))[0], (NOUGHT, (1, BIG * (BIG - 1))))
        evening = Evening(((BIG, 1), ONE), ((BIG - 1, 1), TWO))
        self.assertEqual(paid(evening, ((0, 0), (0, 1), (1, 1))), ((BIG - 1, 1), ONE, ONE))

    def test_cannot_pay_behind_others(self):
        for row in (((0, 0), (0, 0)), ((0, 0), (0, 1)), ((0, 0), (1, 1), (1, 1)), ((0, 0), (1, 1), (1, 0), (1, 0)),
                    ((1, 0), (1, 1), (0, 0)), ((1, 0), (0, 0))):
            self.no_row(row)
        self.flag(True, is_row, Q, ((1, 0), (1, 1)))

    def test_wrong_pairs(self):
        for wrong in WRONG_PAIRS + strangers():
            for row in ((wrong,), ((0, 0), wrong), (wrong, (0, 0)), ((0, 0), (1, 1), wrong)):
                self.no_row(row)

    def test_pairs_that_can_pay_later(self):
        self.no_row(((True, 0),))
        self.no_row([(0, 0)])
        self.no_row(([0, 0],))
        self.no_row(((0, 0), (True, True)))

    def test_no_tuples(self):
        for thing in [[], [(0, 0)], [(0, 0), (1, 1), (1, 0)], iter(((0, 0),)), {(0, 0): 1}, "", 0, None, (0, 0)]:
            self.no_row(thing)
        for thing in strangers():
            if thing != ():
                self.no_row(thing)

    def no_row(self, thing):
        self.flag(False, is_row, Q, thing)
        self.flag(False, is_way, Q, thing)
        self.refused(NoRow, {}, rests, Q, thing)
        self.refused(NoRow, {}, paid, Q, thing)

    def test_against_reference(self):
        chance = random.Random(2)
        for evening in reference.small_evenings(2, 60, 7):
            pairs = [(ower, taker) for ower in range(len(evening.owed)) for taker in range(len(evening.due))]
            for _ in range(20):
                row = tuple(chance.choice(pairs) for _ in range(chance.randint(0, 4)))
                played = reference.play(evening, row)
                self.flag(played is not None, is_row, evening, row)
                self.flag(reference.is_way(evening, row), is_way, evening, row)
                if played is not None:
                    owing, awaiting, amounts = ([reference.amount(each) for each in side] for side in played)
                    self.assertEqual(rests(evening, row), (tuple(owing), tuple(awaiting)))
                    self.assertEqual(paid(evening, row), tuple(amounts))
                else:
                    self.refused(NoRow, {}, rests, evening, row)

    def test_ways(self):
        ways = reference.all_ways(P)
        self.assertEqual(len(set(ways)), 100)
        for way in ways:
            self.flag(True, is_way, P, way)
            self.flag(True, is_row, P, way)
            self.flag(True, is_row, P, way[:-1])
            self.flag(False, is_way, P, way[:-1])
            self.flag(False, is_way, P, list(way))
            self.flag(False, is_way, P, way + (way[-1],))
            self.assertEqual(sum(map(reference.fraction, paid(P, way))), 4)

    def test_asked_again(self):
        for function in (rests, paid, is_row, is_way):
            self.unchanged(function, P, ((0, 0), (1, 1)))
            self.unchanged(function, Q, ((0, 0), (1, 1), (1, 0)))


class TestLed(Checks, unittest.TestCase):
    def test_led(self):
        def front(left):
            return (next(k for k, rest in enumerate(left[0]) if rest[0] > 0),
                    next(k for k, rest in enumerate(left[1]) if rest[0] > 0))
        self.assertEqual(led(Q, front), ((0, 0), (1, 0), (1, 1)))
        self.assertEqual(led(P, front), ((0, 0), (1, 1), (2, 2)))
        self.assertEqual(led(H, front), ((0, 0), (1, 0)))
        self.assertEqual(self.unchanged(led, Q, front), ((0, 0), (1, 0), (1, 1)))

    def test_what_the_function_gets(self):
        seen = []

        def choose(left):
            seen.append(left)
            return ((0, 0), (1, 1), (1, 0))[len(seen) - 1]
        self.assertEqual(led(Q, choose), ((0, 0), (1, 1), (1, 0)))
        self.assertEqual(seen, [rests(Q, ((0, 0), (1, 1), (1, 0))[:k]) for k in range(3)])
        for left in seen:
            self.assertIs(type(left), tuple)
            self.assertEqual([type(side) for side in left], [tuple, tuple])
            self.plain(left)

    def test_each_way_can_be_led(self):
        for way in reference.all_ways(Q):
            turns = iter(way)
            self.assertEqual(led(Q, lambda left: next(turns)), way)

    def test_no_pair(self):
        way = ((0, 0), (1, 1), (1, 0))
        for wrong in WRONG_PAIRS + strangers():
            for place in range(3):
                turns = iter(way[:place] + (wrong, (0, 0)))
                self.refused(NoPair, {"place": place}, led, Q, lambda left: next(turns))

    def test_no_pair_that_can_pay_any_more(self):
        for row, place in ((((0, 0), (0, 0)), 1), (((0, 0), (0, 1)), 1), (((1, 0), (0, 1), (1, 0)), 2),
                           (((1, 0), (1, 1), (1, 1)), 2), (((0, 0), (1, 0), (1, 0)), 2)):
            turns = iter(row)
            self.refused(NoPair, {"place": place}, led, Q, lambda left: next(turns))

    def test_not_asked_behind_the_end(self):
        asked = []

        def choose(left):
            asked.append(left)
            return (0, 0)
        self.assertEqual(led(Evening((ONE,), (ONE,)), choose), ((0, 0),))
        self.assertEqual(len(asked), 1)

    def test_own_errors_go_on(self):
        for error in (KeyError("x"), NoWay(), NoPair(7), NoRow(), QuitsError(), ValueError(), StopIteration(),
                      IndexError(), ZeroDivisionError(), RuntimeError()):
            def choose(left):
                if len([rest for rest in left[0] if rest[0] > 0]) == 1:
                    raise error
                return (0, 0)
            with self.assertRaises(type(error)) as caught:
                led(Q, choose)
            self.assertIs(caught.exception, error)

    def test_many(self):
        wide = Evening((ONE,) * 100, (ONE,) * 100)
        way = tuple((k, 99 - k) for k in range(100))
        turns = iter(way)
        self.assertEqual(led(wide, lambda left: next(turns)), way)
        self.flag(True, is_way, wide, way)
        self.flag(False, is_way, wide, way[1:])


if __name__ == "__main__":
    unittest.main()
