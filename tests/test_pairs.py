"""7.1 and 7.2: what passes between two people."""

import random
import unittest
from fractions import Fraction

from quitsways.errors import NoAmount, NoPerson, TooMany
from quitsways.evenings import Evening, joined
from quitsways.pairs import can_pass, least_by, most_by, passing, surely, way_passing, without
from tests import reference
from tests.strangers import Checks, strangers

NOUGHT = (0, 1)
ONE = (1, 1)
TWO = (2, 1)
HALF = (1, 2)
P = Evening((TWO, ONE, ONE), (TWO, ONE, ONE))
Q = Evening((ONE, (3, 1)), (TWO, TWO))
NINE = Evening((ONE,) * 5, (ONE, ONE, ONE, TWO))
FOURTEEN = Evening((ONE,) * 7, (ONE,) * 7)
FIFTEEN = Evening((ONE,) * 8, (ONE,) * 6 + (TWO,))
WIDE = Evening((ONE,) * 100, (ONE,) * 100)
BIG = 10 ** 40 - 1
NO_PEOPLE = [-1, 3, 4, 100, 10 ** 39, -(10 ** 39), True, False, None, "0", b"0", (0,), [0], (0, 1), {}, Evening((ONE,), (ONE,))]
NO_AMOUNTS = [NOUGHT, (-1, 1), (2, 2), (1, 0), (1, -1), (-1, -1), (True, 1), (1, True), [1, 1], (1,), (1, 1, 1), 1, 0,
              None, "1", "1/2", (ONE, ONE), (NOUGHT,), {}]


def everybody(evening):
    """All pairs of an ower and a taker."""
    return [(ower, taker) for ower in range(len(evening.owed)) for taker in range(len(evening.due))]


def payments(evening, way):
    """The dict from the pairs of a way to what they pay."""
    return dict(zip(way, reference.play(evening, way)[2]))


def differences(evening, ower, taker):
    """What lots of owers with the one owe less what lots of takers without the other are due, in all possible ways."""
    owing, awaiting = reference.start(evening)
    most = min(owing[ower], awaiting[taker])
    owed = {sum(owing[k] for k in lot) for lot in reference.lots(len(owing)) if ower in lot}
    due = {sum(awaiting[k] for k in lot) for lot in reference.lots(len(awaiting)) if taker not in lot}
    return sorted({one - other for one in owed for other in due if 0 < one - other <= most})


class TestPassing(Checks, unittest.TestCase):
    def passes(self, evening, ower, taker, wanted):
        """Just these amounts can pass."""
        found = self.unchanged(passing, evening, ower, taker)
        self.assertIs(type(found), list)
        self.plain(found)
        self.assertEqual(found, [reference.amount(each) for each in sorted(wanted)])
        for amount in found if len(found) < 30 else found[:10] + found[-10:] + found[::len(found) // 10]:
            self.flag(True, can_pass, evening, ower, taker, amount)
            way = way_passing(evening, ower, taker, amount)
            self.assertIs(type(way), tuple)
            self.plain(way)
            self.assertTrue(reference.is_way(evening, way))
            self.assertEqual(reference.amount(payments(evening, way)[(ower, taker)]), amount)

    def none_passes(self, evening, ower, taker, amount):
        """This one cannot."""
        self.flag(False, can_pass, evening, ower, taker, amount)
        self.assertIs(way_passing(evening, ower, taker, amount), None)

    def test_some(self):
        self.assertEqual(passing(Q, 1, 0), [ONE, TWO])
        self.assertEqual(passing(Q, 0, 0), [ONE])
        self.assertEqual(passing(P, 0, 0), [ONE, TWO])
        self.assertEqual(passing(Evening((HALF, (1, 3)), ((5, 6),)), 0, 0), [HALF])
        self.assertEqual(passing(Evening(((2, 3), HALF), ((5, 6), (1, 3))), 0, 0), [(1, 3), (2, 3)])

    def test_against_all_ways(self):
        for evening in [P, Q] + reference.small_evenings(50, 120, 6):
            found = {pair: set() for pair in everybody(evening)}
            for way in reference.all_ways(evening):
                for pair, units in payments(evening, way).items():
                    found[pair].add(units)
            for (ower, taker), wanted in found.items():
                self.passes(evening, ower, taker, wanted)
                owing, awaiting = reference.start(evening)
                others = {owing[ower], awaiting[taker], sum(owing), Fraction(1), owing[ower] + awaiting[taker],
                          owing[ower] / 2, awaiting[taker] / 3, owing[ower] + Fraction(1, BIG), Fraction(BIG)}
                for each in others - wanted:
                    self.none_passes(evening, ower, taker, reference.amount(each))

    def test_sixth_fact(self):
        chance = random.Random(51)
        for owers, takers in ((7, 7), (3, 11), (11, 3), (1, 13), (13, 1), (4, 4), (6, 8), (5, 5)):
            for most in (2, 9, 10 ** 6):
                evening = reference.some_evening(chance, owers, takers, most, Fraction(chance.randint(1, 6), 5))
                ower = chance.randrange(owers)
                taker = chance.randrange(takers)
                self.passes(evening, ower, taker, differences(evening, ower, taker))

    def test_no_difference_of_lots(self):
        evening = reference.evening([4, 6], [2, 8])
        for amount in (ONE, (3, 1), HALF, (5, 2)):
            self.none_passes(evening, 0, 0, amount)
        self.assertEqual(passing(evening, 0, 0), [TWO])
        self.assertEqual(passing(evening, 1, 1), [(4, 1), (6, 1)])
        # A difference of lots that is more than either sum.
        self.none_passes(evening, 1, 1, (8, 1))
        self.none_passes(evening, 0, 1, (6, 1))
        self.none_passes(evening, 0, 0, (4, 1))
        self.none_passes(evening, 1, 0, (6, 1))
        self.assertEqual(passing(evening, 0, 1), [TWO, (4, 1)])

    def test_between_units(self):
        evening = Evening(((1, 2), (1, 3)), ((1, 2), (1, 3)))
        self.assertEqual(passing(evening, 0, 0), [(1, 6), HALF])
        for amount in ((1, 12), (1, 7), (5, 12), (1, 4), (10 ** 39, BIG), (1, BIG), (1, 3)):
            self.none_passes(evening, 0, 0, amount)

    def test_large(self):
        evening = Evening(((1, BIG), (1, BIG - 1)), ((1, BIG - 1), (1, BIG)))
        self.passes(evening, 1, 0, differences(evening, 1, 0))
        self.assertEqual(passing(evening, 0, 1), [(1, BIG)])
        evening = Evening(((BIG, 1), ONE), ((BIG - 1, 1), TWO))
        self.passes(evening, 0, 0, differences(evening, 0, 0))

    def test_errors_in_order(self):
        for evening in (P, FIFTEEN, WIDE):
            owers = [thing for thing in NO_PEOPLE + strangers() if type(thing) is not int or not
                     0 <= thing < len(evening.owed)]
            takers = [thing for thing in NO_PEOPLE + strangers() if type(thing) is not int or not
                      0 <= thing < len(evening.due)]
            for wrong in owers + [len(evening.owed)]:
                self.refused(NoPerson, {}, passing, evening, wrong, 0)
                self.refused(NoPerson, {}, passing, evening, wrong, None)
                for function in (can_pass, way_passing):
                    self.refused(NoPerson, {}, function, evening, wrong, 0, ONE)
                    self.refused(NoPerson, {}, function, evening, wrong, None, None)
            for wrong in takers + [len(evening.due)]:
                self.refused(NoPerson, {}, passing, evening, 0, wrong)
                for function in (can_pass, way_passing):
                    self.refused(NoPerson, {}, function, evening, 0, wrong, ONE)
                    self.refused(NoPerson, {}, function, evening, 0, wrong, None)
            for wrong in NO_AMOUNTS + strangers():
                for function in (can_pass, way_passing):
                    self.refused(NoAmount, {}, function, evening, 0, 0, wrong)

    def test_unlike_sides(self):
        evening = Evening((ONE,) * 4, (TWO, TWO))
        self.assertEqual(passing(evening, 3, 1), [ONE])
        self.refused(NoPerson, {}, passing, evening, 1, 3)
        self.refused(NoPerson, {}, can_pass, evening, 1, 2, ONE)
        self.refused(NoPerson, {}, way_passing, evening, 4, 1, ONE)
        self.refused(NoPerson, {}, without, evening, 1, 3)
        self.refused(NoPerson, {}, most_by, evening, 4)

    def test_fourteen_and_fifteen_people(self):
        self.passes(FOURTEEN, 6, 3, {1})
        self.passes(Evening(((13, 1),), (ONE,) * 13), 0, 12, {1})
        self.passes(Evening((ONE,) * 13, ((13, 1),)), 12, 0, {1})
        self.none_passes(FOURTEEN, 6, 3, HALF)
        for evening in (FIFTEEN, WIDE, Evening(((14, 1),), (ONE,) * 14), Evening((ONE,) * 14, ((14, 1),))):
            self.refused(TooMany, {"most": 14}, passing, evening, 0, 0)
            for amount in (ONE, HALF, (10 ** 39, 1)):
                self.refused(TooMany, {"most": 14}, can_pass, evening, 0, 0, amount)
                self.refused(TooMany, {"most": 14}, way_passing, evening, 0, 0, amount)

    def test_asked_again(self):
        for amount in (ONE, TWO, HALF):
            self.unchanged(can_pass, P, 0, 0, amount)
            self.unchanged(way_passing, P, 0, 0, amount)
        self.unchanged(surely, P)
        self.unchanged(without, P, 0, 0)
        self.unchanged(most_by, P, 0)
        self.unchanged(least_by, P, 0)


class TestSurely(Checks, unittest.TestCase):
    def test_some(self):
        self.assertEqual(surely(Q), [(1, 0), (1, 1)])
        self.assertEqual(surely(P), [])
        self.assertEqual(surely(Evening((ONE,), (ONE,))), [(0, 0)])

    def test_just_the_total_and_more(self):
        self.assertEqual(surely(reference.evening([3, 3], [3, 3])), [])
        self.assertEqual(surely(reference.evening([4, 2], [2, 4])), [(0, 1)])
        self.assertEqual(surely(reference.evening([4, 2], [1, 1, 4], Fraction(1, 7))), [(0, 2)])
        self.assertEqual(surely(reference.evening([3 * 10 ** 30, 10 ** 30], [10 ** 30, 3 * 10 ** 30])), [(0, 1)])
        half = Fraction(1, 2)
        small = Fraction(1, 10 ** 30)
        self.assertEqual(surely(reference.evening([half, half], [half, half])), [])
        self.assertEqual(surely(reference.evening([half + small, half - small], [half, half])), [(0, 0), (0, 1)])
        self.assertEqual(surely(reference.evening([half - small, half + small], [half + small, half - small])), [(1, 0)])

    def test_against_all_ways(self):
        for evening in [P, Q] + reference.small_evenings(52, 200, 6):
            ways = [set(way) for way in reference.all_ways(evening)]
            found = surely(evening)
            self.assertEqual(found, [pair for pair in everybody(evening) if all(pair in way for way in ways)])
            self.assertIs(type(found), list)
            self.plain(found)
            for pair in everybody(evening):
                self.without(evening, pair, pair in found)

    def without(self, evening, pair, is_sure):
        """There is a way without a pair just if it does not pay surely."""
        way = without(evening, *pair)
        if is_sure:
            self.assertIs(way, None)
        else:
            self.assertIs(type(way), tuple)
            self.plain(way)
            self.assertTrue(reference.is_way(evening, way))
            self.assertNotIn(pair, way)

    def test_many_takers(self):
        star = Evening(((100, 1),), (ONE,) * 100)
        self.assertEqual(surely(star), [(0, taker) for taker in range(100)])
        self.assertIs(without(star, 0, 99), None)
        evening = reference.evening([101, 2], [1, 2, 3] + [1] * 97)
        self.assertEqual(surely(evening), [(0, 2)])
        self.assertIs(without(evening, 0, 2), None)
        for taker in (0, 1, 3, 99):
            self.without(evening, (0, taker), False)
        for pair in ((0, 0), (0, 99), (99, 0), (50, 50)):
            self.without(WIDE, pair, False)
        self.assertEqual(surely(WIDE), [])
        wide = joined(WIDE, Evening(((201, 1),), ((201, 1),)))
        self.assertEqual(surely(wide), [(100, 100)])
        self.assertIs(without(wide, 100, 100), None)
        self.without(wide, (100, 0), False)
        chance = random.Random(53)
        for owers, takers in ((100, 100), (2, 100), (100, 3)):
            evening = reference.some_evening(chance, owers, takers, 1000)
            found = surely(evening)
            for pair in chance.sample(everybody(evening), 20) + found[:20]:
                self.without(evening, pair, pair in found)

    def test_without_errors(self):
        for evening in (P, FIFTEEN, WIDE):
            for wrong in NO_PEOPLE + strangers():
                if type(wrong) is not int or not 0 <= wrong < len(evening.owed):
                    self.refused(NoPerson, {}, without, evening, wrong, 0)
                    self.refused(NoPerson, {}, without, evening, wrong, None)
                if type(wrong) is not int or not 0 <= wrong < len(evening.due):
                    self.refused(NoPerson, {}, without, evening, 0, wrong)


class TestByOne(Checks, unittest.TestCase):
    def test_some(self):
        self.assertEqual([most_by(Q, ower) for ower in (0, 1)], [1, 2])
        self.assertEqual([least_by(Q, ower) for ower in (0, 1)], [1, 2])
        self.assertEqual([most_by(P, ower) for ower in (0, 1, 2)], [2, 1, 1])
        self.assertEqual([least_by(P, ower) for ower in (0, 1, 2)], [1, 1, 1])
        self.assertEqual((most_by(Evening((ONE,), (ONE,)), 0), least_by(Evening((ONE,), (ONE,)), 0)), (1, 1))
        self.assertEqual((most_by(Evening(((7, 1),), (ONE,) * 7), 0), least_by(Evening(((7, 1),), (ONE,) * 7), 0)), (7, 7))

    def test_against_all_ways(self):
        for evening in [P, Q] + reference.small_evenings(54, 200, 6) + reference.small_evenings(55, 12, 7):
            ways = reference.all_ways(evening)
            for ower in range(len(evening.owed)):
                numbers = {sum(pair[0] == ower for pair in way) for way in ways}
                self.assertEqual((least_by(evening, ower), most_by(evening, ower)), (min(numbers), max(numbers)))
                self.plain((least_by(evening, ower), most_by(evening, ower)))

    def test_eight_people_against_drawn_ways(self):
        chance = random.Random(56)
        for owers in range(1, 8):
            for most in (1, 2, 9):
                evening = reference.some_evening(chance, owers, 8 - owers, most)
                ways = [reference.drawn_way(chance, evening) for _ in range(300)]
                for ower in range(owers):
                    numbers = [sum(pair[0] == ower for pair in way) for way in ways]
                    self.assertLessEqual(most_by(evening, ower), 8 - owers)
                    self.assertLessEqual(max(numbers), most_by(evening, ower))
                    self.assertGreaterEqual(min(numbers), least_by(evening, ower))

    def test_errors_in_order(self):
        for evening in (P, NINE, FIFTEEN, WIDE):
            for wrong in NO_PEOPLE + strangers():
                if type(wrong) is not int or not 0 <= wrong < len(evening.owed):
                    self.refused(NoPerson, {}, most_by, evening, wrong)
                    self.refused(NoPerson, {}, least_by, evening, wrong)
        for evening in (NINE, FIFTEEN, WIDE, Evening(((8, 1),), (ONE,) * 8), Evening((ONE,) * 8, ((8, 1),))):
            self.refused(TooMany, {"most": 8}, most_by, evening, 0)
            self.refused(TooMany, {"most": 8}, least_by, evening, 0)


if __name__ == "__main__":
    unittest.main()
