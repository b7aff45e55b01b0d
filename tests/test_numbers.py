"""4.1 and 4.2: how many payments ways have."""

import random
import unittest
from fractions import Fraction
from math import gcd, lcm

from quitsways.errors import NoNumber, TooMany
from quitsways.evenings import Evening, joined, measure, people, scaled, total
from quitsways.numbers import can_have, fewest, greatest, loaves, long_way, short_way, way_of
from quitsways.parts import most_parts
from quitsways.ways import is_way
from tests import reference
from tests.strangers import Checks, strangers

ONE = (1, 1)
TWO = (2, 1)
P = Evening((TWO, ONE, ONE), (TWO, ONE, ONE))
Q = Evening((ONE, (3, 1)), (TWO, TWO))
BIG = 10 ** 40 - 1
MANY = Evening((ONE,) * 8, (ONE,) * 7 + (ONE,))


class TestNumbers(Checks, unittest.TestCase):
    def test_some(self):
        self.assertEqual((fewest(P), greatest(P)), (3, 4))
        self.assertEqual((fewest(Q), greatest(Q)), (3, 3))
        single = Evening(((5, 7),), ((5, 7),))
        self.assertEqual((fewest(single), greatest(single)), (1, 1))
        self.assertEqual((short_way(single), long_way(single), way_of(single, 1)), (((0, 0),),) * 3)

    def test_against_all_ways(self):
        for evening in [P, Q] + reference.small_evenings(10, 400, 8):
            known = reference.lengths_of(evening)
            self.assertEqual((fewest(evening), greatest(evening)), (known[0], known[-1]))
            self.plain((fewest(evening), greatest(evening)))
            self.way(evening, short_way(evening), known[0])
            self.way(evening, long_way(evening), known[-1])
            for number in range(-1, people(evening) + 2):
                self.flag(number in known, can_have, evening, number)
                if number in known:
                    self.way(evening, way_of(evening, number), number)
                else:
                    self.assertIs(way_of(evening, number), None)

    def way(self, evening, way, number):
        self.assertIs(type(way), tuple)
        self.plain(way)
        self.assertTrue(reference.is_way(evening, way), (vars(evening), way))
        self.assertEqual(len(way), number, (vars(evening), way))

    def test_the_middle(self):
        chance = random.Random(11)
        for _ in range(25):
            owers = chance.randint(1, 13)
            evening = reference.some_evening(chance, owers, chance.randint(1, 14 - owers), chance.choice([1, 2, 3, 9]),
                                             Fraction(chance.randint(1, 9), chance.randint(1, 9)))
            low = people(evening) - most_parts(evening)
            sums = reference.fraction(total(evening)) / reference.fraction(measure(evening))
            high = int(min(people(evening) - 1, sums))
            self.assertEqual((fewest(evening), greatest(evening)), (low, high))
            for number in range(low - 1, high + 2):
                self.flag(low <= number <= high, can_have, evening, number)
                if low <= number <= high:
                    self.way(evening, way_of(evening, number), number)
                else:
                    self.assertIs(way_of(evening, number), None)

    def test_fourteen_and_fifteen_people(self):
        seven = Evening((ONE,) * 7, (ONE,) * 7)
        self.assertEqual((fewest(seven), greatest(seven)), (7, 7))
        mixed = Evening((TWO,) * 6 + (ONE,), (TWO,) * 6 + (ONE,))
        self.assertEqual((fewest(mixed), greatest(mixed)), (7, 13))
        for number in range(7, 14):
            self.way(mixed, way_of(mixed, number), number)
        for evening in (MANY, Evening(((14, 1),), (ONE,) * 14), joined(seven, Q), Evening((ONE,) * 100, (ONE,) * 100)):
            self.refused(TooMany, {"most": 14}, fewest, evening)
            self.refused(TooMany, {"most": 14}, short_way, evening)
            for number in (0, 1, 14, -1, 10 ** 39, -(10 ** 39), people(evening)):
                self.refused(TooMany, {"most": 14}, can_have, evening, number)
                self.refused(TooMany, {"most": 14}, way_of, evening, number)
            self.way(evening, long_way(evening), greatest(evening))

    def test_no_number(self):
        for thing in strangers():
            if type(thing) is not int:
                for evening in (P, MANY, Evening((ONE,) * 100, (ONE,) * 100)):
                    self.refused(NoNumber, {}, can_have, evening, thing)
                    self.refused(NoNumber, {}, way_of, evening, thing)

    def test_numbers_far_off(self):
        for number in (0, -1, -3, -4, 2, 5, 6, 7, 10 ** 39, -(10 ** 39), BIG, -BIG):
            self.flag(False, can_have, P, number)
            self.assertIs(way_of(P, number), None)
        for number in (3, 4):
            self.flag(True, can_have, P, number)
            self.way(P, way_of(P, number), number)

    def test_greatest_of_many_people(self):
        chance = random.Random(12)
        for most in (1, 2, 3, 6, 30, 10 ** 6):
            for owers, takers in ((100, 100), (100, 60), (1, 100), (100, 1), (15, 3)):
                evening = reference.some_evening(chance, owers, takers, most, Fraction(chance.randint(1, 50), 7))
                self.longest(evening)

    def longest(self, evening):
        sums = reference.fraction(total(evening)) / reference.fraction(measure(evening))
        self.assertEqual(greatest(evening), min(people(evening) - 1, sums))
        self.way(evening, long_way(evening), greatest(evening))

    def test_greatest_of_nearly_like_sums(self):
        for owed, due in (([1] + [2] * 20, [3] + [2] * 19), ([1] + [2] * 20, [2] * 19 + [3]), ([3] * 9, [3] * 9),
                          ([2, 3] + [6] * 20, [5] + [6] * 20), ([2, 3, 30] + [6] * 9, [5] + [6] * 9 + [30]),
                          ([6, 10, 15, 60], [31, 60]), ([35, 42, 30] + [210] * 9, [107] + [210] * 9),
                          ([2] * 30, [3] * 20), ([4] * 15, [6] * 10), ([1] * 99 + [100], [1] * 99 + [100]),
                          ([1, 4, 4, 4], [5, 4, 4]), ([4, 4, 5], [1, 4, 4, 4]), ([1, 6, 6], [4, 9]),
                          ([9, 10, 6], [1, 6, 6, 12]), ([1] * 10, [1] * 9 + [1]), ([100] * 99, [99] * 100)):
            self.longest(reference.evening(owed, due))
            self.longest(reference.evening(due, owed))
            self.longest(reference.evening(owed[::-1], due, Fraction(6, 35)))

    def test_greatest_where_few_pairs_may_begin(self):
        # All but two of the sums share a prime: what these two leave behind may not be a multiple of it.
        chance = random.Random(13)
        for _ in range(300):
            factors = chance.choice([(2,), (3,), (2, 3), (2, 3, 5), (6, 35)])
            whole = 1
            for factor in factors:
                whole *= factor
            owed = [whole * chance.randint(1, 2) for _ in range(chance.randint(1, 6))] + [1]
            due = [whole // factor * chance.randint(1, 2 * factor) for factor in factors]
            due += [whole] * ((sum(owed) - sum(due) - 1) // whole)
            if sum(due) < sum(owed):
                due.append(sum(owed) - sum(due))
            else:
                owed.append(sum(due) - sum(owed) + whole)
                due.append(whole)
            chance.shuffle(owed)
            chance.shuffle(due)
            self.longest(reference.evening(owed, due))

    def test_large_numbers(self):
        evening = Evening(((1, BIG), (1, BIG - 1)), ((1, BIG - 1), (1, BIG)))
        self.assertEqual((fewest(evening), greatest(evening)), (2, 3))
        for number in (2, 3):
            self.way(evening, way_of(evening, number), number)
        evening = Evening(((BIG, 1), ONE), ((BIG - 1, 1), TWO))
        self.assertEqual((fewest(evening), greatest(evening)), (3, 3))
        chance = random.Random(14)
        sums = [Fraction(chance.randint(1, BIG), chance.randint(1, BIG)) for _ in range(100)]
        evening = reference.evening(sums, chance.sample(sums, 100))
        self.assertEqual(greatest(evening), 199)
        self.way(evening, long_way(evening), 199)

    def test_beyond_the_sizes(self):
        wide = Evening((ONE,) * 100, ((2, 1),) * 50)
        wide = joined(joined(wide, wide), scaled(wide, (3, 2)))
        self.assertEqual((people(wide), greatest(wide)), (450, 449))
        self.way(wide, long_way(wide), 449)
        ones = Evening((ONE,) * 100, (ONE,) * 100)
        self.assertEqual(len(long_way(joined(ones, ones))), 200)

    def test_asked_again(self):
        for function in (fewest, greatest, short_way, long_way):
            self.unchanged(function, P)
        for number in (2, 3, 4):
            self.unchanged(can_have, P, number)
            self.unchanged(way_of, P, number)
        self.unchanged(loaves, 4, 6)


class TestLoaves(Checks, unittest.TestCase):
    def test_some(self):
        self.assertEqual(loaves(4, 6), (8, 9))
        self.assertEqual(loaves(1, 1), (1, 1))
        self.assertEqual(loaves(1, 9), (9, 9))
        self.assertEqual(loaves(7, 7), (7, 7))
        self.assertEqual(loaves(3, 6), (6, 6))
        self.assertEqual(loaves(8, 12), (16, 19))

    def test_against_evenings(self):
        for one in range(1, 14):
            for other in range(1, 15 - one):
                evening = Evening((ONE,) * one, (reference.amount(Fraction(one, other)),) * other)
                self.assertEqual(loaves(one, other), (fewest(evening), greatest(evening)))

    def test_formula(self):
        edge = 10 ** 30
        chance = random.Random(15)
        pairs = [(edge, edge), (edge, 1), (1, edge), (edge, edge - 1), (edge // 6 * 4, edge // 6 * 5), (edge, 2)]
        pairs += [(chance.randint(1, edge), chance.randint(1, edge)) for _ in range(50)]
        for one, other in pairs:
            low = one + other - gcd(one, other)
            high = min(one + other - 1, lcm(one, other))
            self.assertEqual(loaves(one, other), (low, high))
            self.plain(loaves(one, other))

    def test_no_number(self):
        for wrong in (0, -1, -4, 10 ** 30 + 1, 10 ** 39, -(10 ** 30), True, False, "4", (4, 1), None):
            self.refused(NoNumber, {}, loaves, wrong, 6)
            self.refused(NoNumber, {}, loaves, 4, wrong)
            self.refused(NoNumber, {}, loaves, wrong, wrong)
            self.refused(NoNumber, {}, loaves, wrong, None)
        for thing in strangers():
            if type(thing) is not int:
                self.refused(NoNumber, {}, loaves, thing, 6)
                self.refused(NoNumber, {}, loaves, 4, thing)
                self.refused(NoNumber, {}, loaves, thing, thing)


if __name__ == "__main__":
    unittest.main()
