"""5.1: evenings all of whose ways have equally many payments."""

import random
import unittest
from fractions import Fraction

from quitsways.alike import is_alike, unit_of, unlike_ways
from quitsways.errors import TooMany
from quitsways.evenings import Evening, joined, mirrored, scaled
from quitsways.parts import most_parts
from tests import reference
from tests.strangers import Checks

ONE = (1, 1)
TWO = (2, 1)
P = Evening((TWO, ONE, ONE), (TWO, ONE, ONE))
Q = Evening((ONE, (3, 1)), (TWO, TWO))
HUNDRED = Evening((ONE,) * 100, (ONE,) * 100)


class TestUnits(Checks, unittest.TestCase):
    def test_owed(self):
        self.assertEqual(unit_of(Evening((TWO, TWO, TWO), (TWO, (4, 1)))), ("owed", TWO))
        self.assertEqual(unit_of(Evening((ONE,) * 5, ((3, 1), TWO))), ("owed", ONE))
        self.assertEqual(unit_of(Evening(((2, 3),) * 3, ((4, 3), (2, 3)))), ("owed", (2, 3)))
        self.assertEqual(unit_of(Evening(((1, 2),) * 2, (ONE,))), ("owed", (1, 2)))

    def test_due(self):
        self.assertEqual(unit_of(Evening((TWO, (4, 1)), (TWO, TWO, TWO))), ("due", TWO))
        self.assertEqual(unit_of(Evening((ONE,), ((1, 4),) * 4)), ("due", (1, 4)))
        self.assertEqual(unit_of(Evening(((3, 5), (6, 5)), ((3, 5),) * 3)), ("due", (3, 5)))

    def test_both(self):
        for amount in (ONE, TWO, (1, 3), (5, 7)):
            for many in (1, 2, 7, 100):
                self.assertEqual(unit_of(Evening((amount,) * many, (amount,) * many)), ("owed", amount))

    def test_none(self):
        self.assertIs(unit_of(P), None)
        self.assertIs(unit_of(Q), None)
        for owed, due in (([2, 2], [1, 3]), ([2, 2, 2], [3, 3]), ([4, 2], [3, 3]), ([2, 4], [2, 4]), ([4, 8], [6, 6]),
                          ([4, 2, 6], [4, 4, 4]), ([1, 2, 2], [1, 2, 2]), ([2, 2, 3], [2, 2, 3]), ([2, 3], [2, 3])):
            for unit in (1, Fraction(3, 7)):
                self.assertIs(unit_of(reference.evening(owed, due, unit)), None)
                self.assertIs(unit_of(reference.evening(due, owed, unit)), None)
        self.assertIs(unit_of(Evening(((1, 2), (1, 2)), ((1, 3), (2, 3)))), None)

    def test_against_the_words(self):
        for evening in reference.small_evenings(20, 300, 8):
            owing, awaiting = reference.start(evening)
            wanted = None
            if len(set(awaiting)) == 1 and all((each / awaiting[0]).denominator == 1 for each in owing):
                wanted = ("due", evening.due[0])
            if len(set(owing)) == 1 and all((each / owing[0]).denominator == 1 for each in awaiting):
                wanted = ("owed", evening.owed[0])
            self.assertEqual(unit_of(evening), wanted)
            other = unit_of(mirrored(evening))
            self.assertEqual(other is None, wanted is None)

    def test_any_size(self):
        self.assertEqual(unit_of(joined(HUNDRED, HUNDRED)), ("owed", ONE))
        self.assertIs(unit_of(joined(HUNDRED, P)), None)
        self.assertEqual(unit_of(scaled(joined(HUNDRED, Evening((TWO,), (ONE, ONE))), (1, 3))), ("due", (1, 3)))
        big = 10 ** 40 - 1
        self.assertEqual(unit_of(Evening(((1, big),) * 3, ((2, big), (1, big)))), ("owed", (1, big)))
        self.assertEqual(unit_of(Evening(((big, 1),), ((big // 3, 1),) * 3)), ("due", (big // 3, 1)))


class TestAlike(Checks, unittest.TestCase):
    def ways(self, evening, known):
        """What unlike_ways tells fits the numbers of payments of all ways."""
        found = unlike_ways(evening)
        if len(known) == 1:
            self.flag(True, is_alike, evening)
            self.assertIs(found, None)
            return
        self.flag(False, is_alike, evening)
        self.assertIs(type(found), tuple)
        self.plain(found)
        few, many = found
        for way in (few, many):
            self.assertTrue(reference.is_way(evening, way))
            self.assertIn(len(way), known)
        self.assertLess(len(few), len(many))

    def test_against_all_ways(self):
        alike = 0
        for evening in [P, Q] + reference.small_evenings(21, 300, 8):
            known = reference.lengths_of(evening)
            self.ways(evening, known)
            alike += len(known) == 1
        self.assertTrue(50 < alike < 250)

    def test_third_fact(self):
        for evening in [P, Q] + reference.small_evenings(22, 100, 8):
            self.flag(unit_of(evening) is not None or most_parts(evening) == 1, is_alike, evening)

    def test_one_even_part_alone(self):
        for owed, due in (([1, 3], [2, 2]), ([7, 11], [5, 13]), ([4, 4, 5], [6, 7]), ([3] * 4, [4] * 3),
                          ([5] * 6, [6] * 5), ([7] * 6, [6] * 7)):
            for sides in ((owed, due), (due, owed)):
                evening = reference.evening(*sides)
                self.assertEqual(most_parts(evening), 1)
                self.assertIs(unit_of(evening), None)
                self.flag(True, is_alike, evening)
                self.assertIs(unlike_ways(evening), None)

    def test_parted_with_a_unit(self):
        for owed, due in (([1] * 7, [1] * 7), ([2] * 6, [4, 6, 2]), ([6, 3, 3], [3] * 4)):
            evening = reference.evening(owed, due)
            self.assertGreater(most_parts(evening), 1)
            self.flag(True, is_alike, evening)
            self.assertIs(unlike_ways(evening), None)

    def test_fourteen_and_fifteen_people(self):
        chance = random.Random(23)
        for owers in range(1, 14):
            evening = reference.some_evening(chance, owers, 14 - owers, 3)
            found = unlike_ways(evening)
            alike = unit_of(evening) is not None or most_parts(evening) == 1
            self.flag(alike, is_alike, evening)
            self.assertEqual(found is None, alike)
            if found is not None:
                self.assertTrue(all(reference.is_way(evening, way) for way in found))
                self.assertLess(len(found[0]), len(found[1]))
        for owed, due in (([2, 2, 2, 1, 1, 1, 1], [1, 1, 1, 1, 1, 1, 2, 2]), ([2, 3] + [1] * 5, [1] * 7 + [3]),
                          ([2] + [1] * 99, [2] + [1] * 99), ([6, 8], [1] * 12 + [2]), ([14, 15], [2] * 7 + [3] * 5)):
            for sides in ((owed, due), (due, owed)):
                evening = reference.evening(*sides)
                if len(owed) + len(due) > 14:
                    self.refused(TooMany, {"most": 14}, is_alike, evening)
                    self.refused(TooMany, {"most": 14}, unlike_ways, evening)
                else:
                    self.assertIs(type(is_alike(evening)), bool)
                self.assertIs(unit_of(evening), None)

    def test_many_people_with_a_unit(self):
        for evening in (HUNDRED, joined(HUNDRED, HUNDRED), Evening(((100, 1),), (ONE,) * 100),
                        Evening((ONE,) * 100, ((100, 1),)), Evening((TWO,) * 50, ((4, 1),) * 25),
                        reference.evening([1] * 8, [1] * 5 + [3]), reference.evening([2] * 7, [2] * 6 + [1] * 2),
                        reference.evening([5] * 2, [1] * 10), reference.evening([9, 6], [1] * 15)):
            if unit_of(evening) is None:
                self.refused(TooMany, {"most": 14}, is_alike, evening)
                self.refused(TooMany, {"most": 14}, unlike_ways, evening)
            else:
                self.flag(True, is_alike, evening)
                self.assertIs(unlike_ways(evening), None)
        self.assertEqual(unit_of(reference.evening([9, 6], [1] * 15)), ("due", ONE))

    def test_asked_again(self):
        for evening in (P, Q, HUNDRED):
            for function in (unit_of, is_alike, unlike_ways):
                self.unchanged(function, evening)


if __name__ == "__main__":
    unittest.main()
