"""6.2: prices, the cheapest settlements, bounds."""

import random
import unittest
from fractions import Fraction

from quitsways.cheapest import bound, cheapest, cost, is_bound
from quitsways.errors import NoFraction, NoPrices, NoSettlement, TooMany
from quitsways.evenings import Evening, joined
from quitsways.settlements import settled
from tests import reference
from tests.strangers import Checks, strangers

NOUGHT = (0, 1)
ONE = (1, 1)
TWO = (2, 1)
HALF = (1, 2)
P = Evening((TWO, ONE, ONE), (TWO, ONE, ONE))
Q = Evening((ONE, (3, 1)), (TWO, TWO))
TABLE = ((ONE, NOUGHT), (ONE, TWO))
PRICES = ((0, 1), (0, 0))
# Wrong prices for two owers and two takers, in all ways that there are.
WRONG = [(), ((0, 1),), ((0, 1), (0, 0), (0, 0)), ((0, 1), (0,)), ((0,), (0, 1)), ((0, 1), (0, 0, 0)), ((0, 1), ()),
         [(0, 1), (0, 0)], ([0, 1], (0, 0)), ((0, 1), [0, 0]), (0, 1), ((0, 1), None), ((0, 1), 0), ((0, 1), "00"),
         ((0, 1, 0), (0, 0, 0)), {(0, 1): 0, (0, 0): 0}, ((0, 1), {0: 0, 1: 0}), TABLE, ((0, 1), (0, (0, 1)))]
WRONG += [tuple(tuple(thing if (ower, taker) == place else 0 for taker in (0, 1)) for ower in (0, 1))
          for place in ((0, 0), (0, 1), (1, 0), (1, 1))
          for thing in (100, -100, 10 ** 39, -(10 ** 39), True, False, None, "0", b"0", (0,), [0], ONE, ())]


def some_prices(chance, evening, most):
    """Prices from minus so much to so much."""
    return tuple(tuple(chance.randint(-most, most) for _ in evening.due) for _ in evening.owed)


def costs(evening, prices, way):
    """What the settlement of a way costs."""
    return sum(prices[ower][taker] * units for (ower, taker), units in zip(way, reference.play(evening, way)[2]))


def worth(evening, thing):
    """What a bound is worth."""
    owing, awaiting = reference.start(evening)
    return (sum(reference.fraction(each) * rest for each, rest in zip(thing[0], owing))
            + sum(reference.fraction(each) * rest for each, rest in zip(thing[1], awaiting)))


def fits(prices, thing):
    """Whether no price is below what both people's fractions add up to."""
    return all(reference.fraction(one) + reference.fraction(other) <= prices[ower][taker]
               for ower, one in enumerate(thing[0]) for taker, other in enumerate(thing[1]))


class TestCost(Checks, unittest.TestCase):
    def test_some(self):
        self.assertEqual(cost(Q, PRICES, TABLE), NOUGHT)
        self.assertEqual(cost(Q, ((1, 2), (3, 4)), TABLE), (12, 1))
        self.assertEqual(cost(Q, ((-1, -2), (-3, -4)), TABLE), (-12, 1))
        self.assertEqual(cost(Q, ((99, 99), (99, 99)), TABLE), (396, 1))
        self.assertEqual(cost(Q, ((-99, -99), (-99, -99)), TABLE), (-396, 1))
        self.assertEqual(cost(Evening((HALF, (1, 3)), ((5, 6),)), ((5,), (-7,)), ((HALF,), ((1, 3),))), (1, 6))
        self.assertEqual(cost(Evening((HALF, HALF), (ONE,)), ((5,), (-5,)), ((HALF,), (HALF,))), NOUGHT)

    def test_against_reference(self):
        chance = random.Random(40)
        for evening in reference.small_evenings(40, 100, 9):
            values = reference.even_shares(evening)
            prices = some_prices(chance, evening, 99)
            wanted = sum(price * each for rows in zip(prices, values) for price, each in zip(*rows))
            self.assertEqual(cost(evening, prices, reference.table(values)), reference.amount(wanted))
            way = reference.drawn_way(chance, evening)
            found = cost(evening, prices, settled(evening, way))
            self.assertEqual(found, reference.amount(costs(evening, prices, way)))
            self.plain(found)

    def test_any_number_of_people(self):
        wide = joined(Evening((ONE,) * 100, (ONE,) * 100), Q)
        way = tuple((k, k) for k in range(100)) + ((100, 100), (101, 101), (101, 100))
        prices = tuple(tuple(7 if ower == taker else -99 for taker in range(102)) for ower in range(102))
        self.assertEqual(cost(wide, prices, settled(wide, way)), (700 + 21 - 99, 1))

    def test_errors(self):
        for wrong in WRONG + strangers():
            for thing in (TABLE, None, ((ONE, NOUGHT), (TWO, ONE))):
                self.refused(NoPrices, {}, cost, Q, wrong, thing)
        for thing in [None, (), ((ONE, NOUGHT), (TWO, ONE)), list(TABLE), PRICES, TABLE[::-1]] + strangers():
            self.refused(NoSettlement, {}, cost, Q, PRICES, thing)

    def test_prices_at_the_limits(self):
        for price in (99, -99, 98, 0):
            for prices in (((price, 0), (0, 0)), ((0, 0), (0, price)), ((price,) * 2,) * 2):
                self.assertEqual(cost(Q, prices, TABLE), (prices[0][0] + prices[1][0] + 2 * prices[1][1], 1))
                self.assertEqual(cheapest(Q, prices)[0][1], 1)
                self.flag(True, is_bound, Q, prices, (-400, 1), (((-99, 1),) * 2, (NOUGHT,) * 2))


class TestCheapest(Checks, unittest.TestCase):
    def cheapest(self, evening, prices):
        """The least cost, with which the way and the bound are compared."""
        least, way = cheapest(evening, prices)
        self.plain((least, way))
        self.assertIs(type(way), tuple)
        self.assertTrue(reference.is_way(evening, way))
        self.assertEqual(least, reference.amount(costs(evening, prices, way)))
        self.assertEqual(cost(evening, prices, settled(evening, way)), least)
        thing = bound(evening, prices)
        self.plain(thing)
        self.assertEqual((type(thing), len(thing)), (tuple, 2))
        self.assertEqual([(type(side), len(side)) for side in thing],
                         [(tuple, len(evening.owed)), (tuple, len(evening.due))])
        self.assertTrue(all(reference.amount(reference.fraction(each)) == each for side in thing for each in side))
        self.assertTrue(fits(prices, thing))
        self.assertEqual(reference.amount(worth(evening, thing)), least)
        self.flag(True, is_bound, evening, prices, least, thing)
        more = reference.amount(reference.fraction(least) + Fraction(1, 10 ** 30))
        self.flag(False, is_bound, evening, prices, more, thing)
        return least

    def test_some(self):
        self.assertEqual(self.cheapest(Q, PRICES), NOUGHT)
        self.assertEqual(self.cheapest(Q, ((1, 2), (3, 4))), (12, 1))
        self.assertEqual(self.cheapest(Q, ((2, 1), (3, 4))), (11, 1))
        self.assertEqual(self.cheapest(Evening((ONE,), (ONE,)), ((-99,),)), (-99, 1))
        self.assertEqual(self.cheapest(Evening(((2, 3),), ((1, 3), (1, 3))), ((5, -4),)), (1, 3))
        self.assertEqual(self.cheapest(Evening((ONE,) * 3, (ONE,) * 3), ((1, 2, 3), (2, 4, 6), (3, 6, 9))), (10, 1))

    def test_against_all_ways(self):
        chance = random.Random(41)
        for evening in [P, Q] + reference.small_evenings(41, 120, 6):
            ways = reference.all_ways(evening)
            for most in (99, 1, 0):
                prices = some_prices(chance, evening, most)
                wanted = min(costs(evening, prices, way) for way in ways)
                self.assertEqual(self.cheapest(evening, prices), reference.amount(wanted))

    def test_against_drawn_ways(self):
        chance = random.Random(42)
        for _ in range(25):
            evening = reference.some_evening(chance, 10, 10, chance.choice([1, 3, 20, 10 ** 9]), Fraction(5, 3))
            prices = some_prices(chance, evening, chance.choice([1, 9, 99]))
            least = reference.fraction(self.cheapest(evening, prices))
            for _ in range(20):
                self.assertGreaterEqual(costs(evening, prices, reference.drawn_way(chance, evening)), least)

    def test_orders(self):
        # Each one pays one: the least cost is that of the best order, which is known for such prices.
        chance = random.Random(43)
        for many in range(1, 11):
            rows = chance.sample(range(10), many)
            columns = chance.sample(range(10), many)
            prices = tuple(tuple(row * column for column in columns) for row in rows)
            wanted = sum(row * column for row, column in zip(sorted(rows), sorted(columns, reverse=True)))
            self.assertEqual(self.cheapest(Evening((ONE,) * many, (ONE,) * many), prices), (wanted, 1))

    def test_hard_prices(self):
        for most, step in ((99, 1), (99, 22), (50, 7)):
            evening = reference.evening(range(1, 11), range(10, 0, -1), Fraction(1, 3))
            prices = tuple(tuple((ower * taker * step) % (2 * most + 1) - most for taker in range(10))
                           for ower in range(10))
            self.cheapest(evening, prices)
            self.cheapest(evening, tuple(tuple(-each for each in row) for row in prices))
        big = 10 ** 40 - 1
        self.cheapest(Evening(((1, big), (1, big - 1)), ((1, big - 1), (1, big))), ((5, -9), (7, 99)))

    def test_twenty_and_twenty_one_people(self):
        chance = random.Random(44)
        for owers in (1, 2, 7, 13, 19):
            evening = reference.some_evening(chance, owers, 20 - owers, 9)
            self.cheapest(evening, some_prices(chance, evening, 99))
            evening = reference.some_evening(chance, owers, 21 - owers, 9)
            prices = some_prices(chance, evening, 99)
            for function in (cheapest, bound):
                self.refused(TooMany, {"most": 20}, function, evening, prices)
                for wrong in (None, prices[1:], prices + prices[:1], list(prices), ((100,) + prices[0][1:],) + prices[1:],
                              ((False,) + prices[0][1:],) + prices[1:], prices[:-1] + (prices[-1][1:],)):
                    self.refused(NoPrices, {}, function, evening, wrong)
        wide = Evening((ONE,) * 100, (ONE,) * 100)
        self.refused(TooMany, {"most": 20}, bound, wide, ((0,) * 100,) * 100)
        self.refused(TooMany, {"most": 20}, cheapest, wide, ((0,) * 100,) * 100)
        self.refused(NoPrices, {}, cheapest, wide, ((0,) * 100,) * 99)

    def test_no_prices(self):
        for wrong in WRONG + strangers():
            for function in (cheapest, bound):
                self.refused(NoPrices, {}, function, Q, wrong)

    def test_asked_again(self):
        self.unchanged(cheapest, Q, PRICES)
        self.unchanged(bound, Q, PRICES)
        self.unchanged(cost, Q, PRICES, TABLE)
        self.unchanged(is_bound, Q, PRICES, NOUGHT, ((NOUGHT,) * 2, (NOUGHT,) * 2))


class TestBounds(Checks, unittest.TestCase):
    def test_errors(self):
        right = ((NOUGHT,) * 2,) * 2
        for wrong in WRONG + strangers():
            for least in (NOUGHT, None):
                self.refused(NoPrices, {}, is_bound, Q, wrong, least, right)
                self.refused(NoPrices, {}, is_bound, Q, wrong, least, None)
        for least in [(2, 2), (0, 2), (1, 0), (1, -1), (True, 1), (1, True), [0, 1], 0, (0,), (0, 1, 1), (NOUGHT,),
                      (-2, 4), "0", None] + strangers():
            for thing in (right, None):
                self.refused(NoFraction, {}, is_bound, Q, PRICES, least, thing)

    def test_worth(self):
        # It is worth 1 * 1 + 3 * 0 + 2 * 2 - 2 * 3 = -1.
        thing = ((ONE, NOUGHT), (TWO, (-3, 1)))
        prices = ((3, -2), (2, -3))
        for least, wanted in (((-1, 1), True), ((-9, 1), True), ((-10 ** 39, 1), True), ((-10 ** 39 - 1, 10 ** 39), True),
                              (NOUGHT, False), ((1 - 10 ** 39, 10 ** 39), False), ((10 ** 39, 1), False), ((-1, 2), False)):
            self.flag(wanted, is_bound, Q, prices, least, thing)

    def test_a_little_too_great(self):
        chance = random.Random(45)
        for evening in [P, Q] + reference.small_evenings(45, 60, 8):
            prices = some_prices(chance, evening, 9)
            thing = bound(evening, prices)
            least = worth(evening, thing)
            for small in (Fraction(1, 10 ** 39), Fraction(1, 7), 1, Fraction(10 ** 39)):
                for side in (0, 1):
                    for person in range(len(thing[side])):
                        values = [[reference.fraction(each) for each in lot] for lot in thing]
                        values[side][person] += small
                        other = reference.table(values)
                        self.flag(fits(prices, other), is_bound, evening, prices, reference.amount(least), other)
                        values[side][person] -= 2 * small
                        other = reference.table(values)
                        self.flag(False, is_bound, evening, prices, reference.amount(least), other)
                        self.flag(True, is_bound, evening, prices, reference.amount(worth(evening, other)), other)
                        more = worth(evening, other) + Fraction(1, 10 ** 39)
                        self.flag(False, is_bound, evening, prices, reference.amount(more), other)

    def test_one_pair_too_dear(self):
        for ower in range(3):
            for taker in range(3):
                prices = tuple(tuple(4 if (row, column) == (ower, taker) else 5 for column in range(3)) for row in range(3))
                self.flag(False, is_bound, P, prices, (-99, 1), ((TWO,) * 3, ((3, 1),) * 3))
                self.flag(True, is_bound, P, prices, (16, 1), ((TWO,) * 3, (TWO,) * 3))
                self.flag(False, is_bound, P, prices, (-99, 1), ((TWO,) * 3, ((2 * 10 ** 38 + 1, 10 ** 38),) * 3))

    def test_halves(self):
        self.flag(True, is_bound, Q, ((1, 1), (1, 1)), (4, 1), ((HALF, HALF), (HALF, HALF)))
        self.flag(False, is_bound, Q, ((1, 1), (1, 1)), (5, 1), ((HALF, HALF), (HALF, HALF)))
        self.flag(True, is_bound, Q, ((0, 1), (0, 1)), (2, 1), (((-1, 3),) * 2, ((1, 3), (4, 3))))
        self.flag(False, is_bound, Q, ((0, 1), (0, 1)), (21, 10), (((-1, 3),) * 2, ((1, 3), (4, 3))))

    def test_judged_things(self):
        zero = (NOUGHT, NOUGHT)
        self.flag(True, is_bound, Q, PRICES, (-9, 1), (zero, zero))
        for thing in ((zero,), (zero, zero, zero), [zero, zero], (list(zero), zero), (zero, list(zero)), zero, (), None,
                      (zero[:1], zero), (zero, zero[:1]), (zero + zero[:1], zero), (zero, zero + zero[:1]), ((), zero),
                      ((0, 0), zero), (zero, (0, 0)), ((NOUGHT, 0), zero), (zero, (NOUGHT, False)), {zero: 0, (): 1},
                      ((NOUGHT, (False, 1)), zero), ((NOUGHT, (0, True)), zero), (zero, (NOUGHT, (0, 2))),
                      (zero, ((-2, 2), NOUGHT)), (zero, ((-1, -1), NOUGHT)), (zero, ([0, 1], NOUGHT)), (zero, "ab")):
            self.flag(False, is_bound, Q, PRICES, (-9, 1), thing)
        for thing in strangers():
            self.flag(False, is_bound, Q, PRICES, (-9, 1), thing)
            self.flag(False, is_bound, Q, PRICES, (-9, 1), (thing, zero))
            self.flag(False, is_bound, Q, PRICES, (-9, 1), (zero, (NOUGHT, thing)))

    def test_any_number_of_people(self):
        wide = joined(Evening((ONE,) * 100, (ONE,) * 100), Q)
        prices = ((1,) * 102,) * 102
        thing = ((NOUGHT,) * 102, (ONE,) * 102)
        self.flag(True, is_bound, wide, prices, (104, 1), thing)
        self.flag(False, is_bound, wide, prices, (209, 2), thing)
        self.flag(False, is_bound, wide, ((1,) * 102,) * 101 + ((1,) * 101 + (0,),), (104, 1), thing)


if __name__ == "__main__":
    unittest.main()
