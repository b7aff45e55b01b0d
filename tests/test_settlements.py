"""6.1: settlements and mixtures."""

import random
import unittest
from fractions import Fraction

from quitsways.errors import NoSettlement, NoWay
from quitsways.evenings import Evening, joined, scaled
from quitsways.numbers import long_way
from quitsways.settlements import is_mixture, is_settlement, mixture, settled
from tests import reference
from tests.strangers import Checks, strangers

NOUGHT = (0, 1)
ONE = (1, 1)
TWO = (2, 1)
HALF = (1, 2)
P = Evening((TWO, ONE, ONE), (TWO, ONE, ONE))
Q = Evening((ONE, (3, 1)), (TWO, TWO))
WAYS = [((0, 0), (1, 1), (1, 0)), ((0, 1), (1, 0), (1, 1))]
OF_Q = [((ONE, NOUGHT), (ONE, TWO)), ((NOUGHT, ONE), (TWO, ONE))]
MIXED = (((1, 3), (2, 3)), ((5, 3), (4, 3)))
BIG = 10 ** 40 - 1


def changed(settlement, ower, taker, thing):
    """The settlement with another thing for these two people."""
    rows = [list(row) for row in settlement]
    rows[ower][taker] = thing
    return tuple(tuple(row) for row in rows)


def ring(evening, values, change):
    """The settlement with so much more, and less, around the ring of the first two people of both sides."""
    for ower, taker, sign in ((0, 0, 1), (0, 1, -1), (1, 1, 1), (1, 0, -1)):
        values[ower][taker] += sign * change
    return reference.table(values)


class TestSettlements(Checks, unittest.TestCase):
    def test_right(self):
        for thing in OF_Q + [MIXED, ((HALF, HALF), ((3, 2), (3, 2)))]:
            self.flag(True, is_settlement, Q, thing)
        self.flag(True, is_settlement, Evening((ONE,), (ONE,)), ((ONE,),))
        self.flag(True, is_settlement, Evening((HALF, HALF), (ONE,)), ((HALF,), (HALF,)))
        self.flag(True, is_settlement, Evening((ONE,), (HALF, HALF)), ((HALF, HALF),))

    def test_against_sums(self):
        chance = random.Random(30)
        found = {True: 0, False: 0}
        for evening in reference.small_evenings(30, 200, 7):
            owing, awaiting = reference.start(evening)
            for _ in range(10):
                values = reference.values(settled(evening, reference.drawn_way(chance, evening)))
                for _ in range(chance.randint(0, 3)):
                    # So much more here, and less elsewhere: in the same row, in the same column, or anywhere.
                    ower, other = (chance.randrange(len(owing)) for _ in (0, 1))
                    taker, last = (chance.randrange(len(awaiting)) for _ in (0, 1))
                    step = chance.choice([0, Fraction(1, 7), -Fraction(1, 7), owing[ower]])
                    values[ower][taker] += step
                    values[chance.choice([ower, other])][chance.choice([taker, last])] -= step
                right = (all(each >= 0 for row in values for each in row) and [sum(row) for row in values] == owing
                         and [sum(column) for column in zip(*values)] == awaiting)
                found[right] += 1
                self.flag(right, is_settlement, evening, reference.table(values))
        self.assertGreater(min(found.values()), 200)

    def test_sums_of_one_side(self):
        # All owers' sums fit, one taker's does not, and the other way round.
        self.flag(False, is_settlement, Q, ((ONE, NOUGHT), (TWO, ONE)))
        self.flag(False, is_settlement, Q, ((TWO, NOUGHT), (NOUGHT, TWO)))
        self.flag(False, is_settlement, Q, ((NOUGHT, NOUGHT), (TWO, TWO)))
        self.flag(False, is_settlement, Q, ((ONE, NOUGHT), (ONE, ONE)))
        # All but two of one side.
        right = ((ONE, ONE, NOUGHT), (ONE, NOUGHT, NOUGHT), (NOUGHT, NOUGHT, ONE))
        self.flag(True, is_settlement, P, right)
        self.flag(False, is_settlement, P, ((ONE, NOUGHT, ONE),) + right[1:])
        self.flag(False, is_settlement, P, ((ONE, ONE, NOUGHT), (NOUGHT,) * 3, (ONE, NOUGHT, ONE)))

    def test_fractions_from_nought_on(self):
        self.flag(False, is_settlement, Q, (((-1, 1), TWO), ((3, 1), NOUGHT)))
        self.flag(False, is_settlement, Q, (((3, 2), (-1, 2)), (HALF, (5, 2))))
        for thing in ((2, 2), (0, 2), (-1, -1), (1, 0), (0, 0), (0, -1), (1, -1), (True, 1), (1, True), (True, True),
                      [1, 1], (1,), (1, 1, 1), 1, "1", None, ("1", "1"), ONE + ONE, (ONE, ONE), ((1, 1),), b"\1\1"):
            self.flag(False, is_settlement, Q, changed(OF_Q[0], 0, 0, thing))
            self.flag(False, is_settlement, Q, changed(OF_Q[0], 1, 0, thing))
        for thing in ((0, 2), (0, 3), (0, -1), (False, 1), (0, True), (0, 0), [0, 1], 0, (), None, (0,), (-1, 1)):
            self.flag(False, is_settlement, Q, changed(OF_Q[0], 0, 1, thing))

    def test_rows(self):
        row, other = OF_Q[0]
        for thing in ((row,), (row, other, (NOUGHT, NOUGHT)), (row, other, ()), (), (row, other[:1]), (row[:1], other),
                      (row + (NOUGHT,), other), (row, other + (NOUGHT,)), ((), other), (row, ()), [row, other],
                      (list(row), other), (row, list(other)), {0: row, 1: other}, {row: 0, other: 1}, (other, row),
                      ((row, other),), row, (row, None), (row, 3), (row, "ab"), (row, {ONE: 0, TWO: 0}),
                      ((ONE, ONE), (NOUGHT, TWO)), ((NOUGHT, ONE, ONE, TWO),), iter((row, other)), (row, iter(other))):
            self.flag(False, is_settlement, Q, thing)
        for thing in strangers():
            self.flag(False, is_settlement, Q, thing)
            self.flag(False, is_settlement, Evening((ONE,), (ONE,)), thing)

    def test_large(self):
        evening = Evening(((1, BIG), (1, BIG - 1)), ((1, BIG - 1), (1, BIG)))
        thing = (((0, 1), (1, BIG)), ((1, BIG - 1), (0, 1)))
        self.flag(True, is_settlement, evening, thing)
        self.flag(False, is_settlement, evening, thing[::-1])
        self.assertEqual(settled(evening, ((0, 1), (1, 0))), thing)
        self.flag(False, is_settlement, evening, changed(thing, 0, 1, (1, BIG - 1)))

    def test_settled(self):
        for way, settlement in zip(WAYS, OF_Q):
            self.assertEqual(settled(Q, way), settlement)
            self.assertEqual(settled(Q, way[:0] + (way[1], way[0], way[2])), settlement)
        for evening in [P] + reference.small_evenings(31, 25, 6):
            for way in reference.all_ways(evening):
                found = settled(evening, way)
                self.assertEqual(found, reference.table(reference.mixed(evening, [(1, way)])))
                self.plain(found)
                self.flag(True, is_settlement, evening, found)

    def test_settled_of_many(self):
        wide = joined(Evening((ONE,) * 100, (ONE,) * 100), scaled(Evening(((50, 1),) * 2, (TWO,) * 50), (1, 3)))
        way = long_way(wide)
        found = settled(wide, way)
        self.assertEqual((len(found), {len(row) for row in found}), (102, {150}))
        self.flag(True, is_settlement, wide, found)
        self.assertEqual({(ower, taker) for ower, row in enumerate(found) for taker, each in enumerate(row) if each[0]},
                         set(way))
        self.flag(False, is_settlement, wide, found[1:] + found[:1])

    def test_no_way(self):
        for thing in [(), WAYS[0][:2], WAYS[0][::-1], list(WAYS[0]), WAYS[0] + ((0, 0),), WAYS[:1], ((0, 2),),
                      ((0, 0), (1, 1), (True, 0)), ((0, 0), (1, 1), [1, 0]), OF_Q[0]] + strangers():
            self.refused(NoWay, {}, settled, Q, thing)


class TestMixtures(Checks, unittest.TestCase):
    def mixture(self, evening, settlement):
        """The mixture of a settlement, which is looked at."""
        found = mixture(evening, settlement)
        self.assertIs(type(found), list)
        self.plain(found)
        self.assertLessEqual(len(found), len(evening.owed) * len(evening.due))
        shares = []
        for item in found:
            self.assertIs(type(item), tuple)
            share, way = item
            self.assertIs(type(share), tuple)
            self.assertEqual(reference.amount(reference.fraction(share)), share)
            shares.append(reference.fraction(share))
            self.assertTrue(reference.is_way(evening, way))
        self.assertTrue(min(shares) > 0 and sum(shares) == 1)
        values = reference.mixed(evening, [(share, way) for share, (_, way) in zip(shares, found)])
        self.assertEqual(reference.table(values), settlement)
        self.flag(True, is_mixture, evening, settlement, found)
        return found

    def test_of_a_way(self):
        for evening in [P, Q] + reference.small_evenings(32, 40, 6):
            for way in reference.all_ways(evening)[:60]:
                found = self.mixture(evening, settled(evening, way))
                # No other settlement has all the noughts of a way's.
                self.assertEqual(len(found), 1)
                self.assertEqual(found[0][0], ONE)
                self.assertEqual(sorted(found[0][1]), sorted(way))

    def test_only_ways_have_their_noughts_alone(self):
        for evening in reference.small_evenings(33, 200, 6):
            values = reference.even_shares(evening)
            is_tree = len(evening.owed) == 1 or len(evening.due) == 1
            self.assertEqual(len(self.mixture(evening, reference.table(values))) == 1, is_tree)

    def test_with_a_ring(self):
        evening = Evening((TWO, TWO), (TWO, TWO))
        self.assertEqual(len(self.mixture(evening, ((ONE, ONE), (ONE, ONE)))), 2)
        self.mixture(evening, ((HALF, (3, 2)), ((3, 2), HALF)))
        self.assertEqual(len(self.mixture(Q, ((HALF, HALF), ((3, 2), (3, 2))))), 2)
        self.mixture(Q, MIXED)
        chance = random.Random(34)
        for _ in range(100):
            evening = reference.some_evening(chance, chance.randint(2, 4), chance.randint(2, 4), 12)
            values = reference.values(settled(evening, reference.drawn_way(chance, evening)))
            other = reference.values(settled(evening, reference.drawn_way(chance, evening)))
            middle = [[(one + two) / 2 for one, two in zip(*rows)] for rows in zip(values, other)]
            self.mixture(evening, reference.table(middle))
            room = min(middle[0][1], middle[1][0])
            self.mixture(evening, ring(evening, middle, room * Fraction(chance.randint(0, 5), 5)))

    def test_even_shares(self):
        chance = random.Random(35)
        for owers in range(1, 20):
            for most in (1, 9, 1000):
                takers = 20 - owers if most == 9 else chance.randint(1, 20 - owers)
                evening = reference.some_evening(chance, owers, takers, most, Fraction(chance.randint(1, 9), 7))
                self.mixture(evening, reference.table(reference.even_shares(evening)))
        self.mixture(Evening((ONE,) * 10, (ONE,) * 10), (((1, 10),) * 10,) * 10)

    def test_large_numbers(self):
        chance = random.Random(36)
        sums = [Fraction(chance.randint(1, BIG), chance.randint(1, 10 ** 6)) for _ in range(4)]
        evening = reference.evening(sums, chance.sample(sums, 4))
        self.mixture(evening, reference.table(reference.even_shares(evening)))

    def test_many_ways_mixed(self):
        chance = random.Random(37)
        for evening in reference.small_evenings(37, 60, 9):
            weights = [chance.randint(1, 9) for _ in range(chance.randint(1, 12))]
            thing = [(Fraction(weight, sum(weights)), reference.drawn_way(chance, evening)) for weight in weights]
            settlement = reference.table(reference.mixed(evening, thing))
            self.mixture(evening, settlement)
            thing = [(reference.amount(share), way) for share, way in thing]
            # Such a one may have more ways than owers times takers, or a way twice.
            self.flag(True, is_mixture, evening, settlement, thing)
            self.flag(True, is_mixture, evening, settlement, thing[::-1])

    def test_ways_of_many_people(self):
        wide = joined(Evening((ONE,) * 100, (ONE,) * 100), Q)
        way = tuple((k, 99 - k) for k in range(100)) + tuple((100 + i, 100 + j) for i, j in WAYS[0])
        other = tuple((k, k) for k in range(100)) + tuple((100 + i, 100 + j) for i, j in WAYS[1])
        settlement = settled(wide, way)
        self.assertEqual([(share, sorted(told)) for share, told in mixture(wide, settlement)], [(ONE, sorted(way))])
        values = reference.mixed(wide, [(Fraction(1, 3), way), (Fraction(2, 3), other)])
        self.mixture(wide, reference.table(values))

    def test_no_settlement(self):
        for thing in [(), OF_Q[0][:1], list(OF_Q[0]), ((ONE, NOUGHT), (TWO, ONE)), [(ONE, WAYS[0])]] + strangers():
            self.refused(NoSettlement, {}, mixture, Q, thing)
            for judged in (None, [], [(ONE, WAYS[0])], 0):
                self.refused(NoSettlement, {}, is_mixture, Q, thing, judged)
        for thing in strangers():
            self.refused(NoSettlement, {}, is_mixture, Q, None, thing)

    def test_judged_shares(self):
        third = (1, 3)
        right = [(third, WAYS[0]), ((2, 3), WAYS[1])]
        self.flag(True, is_mixture, Q, MIXED, right)
        self.flag(True, is_mixture, Q, MIXED, right[::-1])
        self.flag(False, is_mixture, Q, OF_Q[0], right)
        self.flag(False, is_mixture, Q, MIXED, [(third, WAYS[1]), ((2, 3), WAYS[0])])
        for shares in ((third, third), (HALF, HALF), (third, HALF), (ONE, ONE), ((2, 3), (2, 3)), ((1, 6), (1, 3)),
                       ((2, 6), (2, 3)), (third, (4, 6)), ((-1, 3), (4, 3)), ((1, 3), NOUGHT), (True, False), (0, 1),
                       ([1, 3], (2, 3)), ("1/3", "2/3"), ((1, True), (2, 3)), (None, None), ((1, 3, 1), (2, 3))):
            self.flag(False, is_mixture, Q, MIXED, [(share, way) for share, way in zip(shares, WAYS)])
        self.flag(True, is_mixture, Q, OF_Q[0], [(ONE, WAYS[0])])
        for thing in ([(ONE, WAYS[0]), (NOUGHT, WAYS[1])], [(NOUGHT, WAYS[1]), (ONE, WAYS[0])], [(TWO, WAYS[0])],
                      [((-1, 1), WAYS[0]), (TWO, WAYS[0])], [(HALF, WAYS[0])], [], [(TWO, WAYS[0]), ((-1, 1), WAYS[0])],
                      [((1, 1), WAYS[0]), ((-1, 1), WAYS[1]), ((1, 1), WAYS[1])], [((2, 2), WAYS[0])],
                      [((True, 1), WAYS[0])], [((1, True), WAYS[0])], [(1, WAYS[0])], [(True, WAYS[0])],
                      [((-1, -1), WAYS[0])], [(ONE, WAYS[0]), (ONE, WAYS[0])]):
            self.flag(False, is_mixture, Q, OF_Q[0], thing)

    def test_judged_ways(self):
        right = ((0, 0), (1, 1), (1, 0))
        for way in ((), right[:2], right + ((0, 0),), list(right), ((0, 0), (1, 0), (1, 0)), ((False, 0),) + right[1:],
                    ([0, 0],) + right[1:], right[::-1], None, 0, WAYS[1], OF_Q[0]):
            self.flag(False, is_mixture, Q, OF_Q[0], [(ONE, way)])
            self.flag(False, is_mixture, Q, OF_Q[0], [(HALF, right), (HALF, way)])
        for order in (((1, 1), (0, 0), (1, 0)), ((0, 0), (1, 0), (1, 1)), ((1, 1), (1, 0), (0, 0))):
            self.flag(True, is_mixture, Q, OF_Q[0], [(HALF, right), (HALF, order)])

    def test_more_than_there_must_be(self):
        self.flag(True, is_mixture, Q, OF_Q[0], [((1, 50), WAYS[0])] * 50)
        self.flag(False, is_mixture, Q, OF_Q[0], [((1, 50), WAYS[0])] * 49)
        self.flag(False, is_mixture, Q, OF_Q[0], [((1, 50), WAYS[0])] * 51)
        self.flag(True, is_mixture, Q, MIXED, [((1, 6), WAYS[0]), (third := (1, 3), WAYS[1])] * 2)
        self.flag(True, is_mixture, Q, MIXED, [((1, 9), WAYS[0])] * 3 + [(third, WAYS[1])] * 2)
        single = Evening((ONE,), (ONE,))
        self.flag(True, is_mixture, single, ((ONE,),), [((1, 600), ((0, 0),))] * 600)
        self.flag(False, is_mixture, single, ((ONE,),), [((1, 600), ((0, 0),))] * 599)

    def test_shares_with_long_bottoms(self):
        single = Evening((ONE,), (ONE,))
        shares = [Fraction(1, BIG - 2 * number) for number in range(200)]
        thing = [(reference.amount(share), ((0, 0),)) for share in shares]
        self.flag(False, is_mixture, single, ((ONE,),), thing)

    def test_judged_things(self):
        right = [(ONE, WAYS[0])]
        for thing in (tuple(right), {ONE: WAYS[0]}, iter(right), right[0], [right], [[ONE, WAYS[0]]], [WAYS[0]], [ONE],
                      [(ONE,)], [(ONE, WAYS[0], 0)], [(WAYS[0], ONE)], [()], [None], right + [None], right + [()],
                      right + [right[0][1]], WAYS[0], OF_Q[0], (right,), "", [ONE + (WAYS[0],)]):
            self.flag(False, is_mixture, Q, OF_Q[0], thing)
        for thing in strangers():
            self.flag(False, is_mixture, Q, OF_Q[0], thing)
            self.flag(False, is_mixture, Q, OF_Q[0], [thing])
            self.flag(False, is_mixture, Q, OF_Q[0], right + [(thing, WAYS[0])])
            self.flag(False, is_mixture, Q, OF_Q[0], right + [(ONE, thing)])

    def test_asked_again(self):
        self.unchanged(mixture, Q, MIXED)
        self.unchanged(settled, Q, WAYS[0])
        self.unchanged(is_settlement, Q, MIXED)
        self.unchanged(is_mixture, Q, MIXED, [((1, 3), WAYS[0]), ((2, 3), WAYS[1])])
        told = mixture(Q, MIXED)
        kept = list(told)
        told.append((ONE, WAYS[0]))
        self.assertEqual(mixture(Q, MIXED), kept)


if __name__ == "__main__":
    unittest.main()
