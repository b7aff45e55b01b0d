"""12.1: all ways, counted and numbered."""

import random
import unittest
from collections import Counter
from fractions import Fraction
from unittest import mock

from quitsways import counting
from quitsways.counting import all_ways, drawings, many_ways, way_at, way_number, ways_by_number
from quitsways.drawings import is_drawing, many_ways_for
from quitsways.errors import NoNumber, NoWay, TooMany
from quitsways.evenings import Evening, joined
from quitsways.numbers import fewest, greatest
from quitsways.parts import partings
from quitsways.ways import is_way
from tests import reference
from tests.strangers import Checks, strangers

ONE = (1, 1)
TWO = (2, 1)
P = Evening((TWO, ONE, ONE), (TWO, ONE, ONE))
Q = Evening((ONE, (3, 1)), (TWO, TWO))
SINGLE = Evening((ONE,), (ONE,))
NINE = Evening((ONE,) * 5, ((5, 4),) * 4)
FIVE_AND_FIVE = Evening((ONE,) * 5, (ONE,) * 5)
WIDE = joined(Evening((ONE,) * 100, (ONE,) * 100), P)


def eights(seed):
    """Evenings of eight people, some with many even groups."""
    chance = random.Random(seed)
    found = [reference.some_evening(chance, owers, 8 - owers, most) for owers in range(1, 8) for most in (3, 1000)]
    return found + [Evening((ONE,) * 4, (ONE,) * 4)]


class TestCounted(Checks, unittest.TestCase):
    def test_some(self):
        self.assertEqual((many_ways(Q), ways_by_number(Q)), (8, {3: 8}))
        self.assertEqual((many_ways(P), ways_by_number(P)), (100, {3: 12, 4: 88}))
        self.assertEqual((many_ways(SINGLE), ways_by_number(SINGLE), all_ways(SINGLE)), (1, {1: 1}, [((0, 0),)]))

    def test_against_all(self):
        for evening in [P, Q, SINGLE] + reference.small_evenings(120, 80, 6):
            ways = reference.all_ways(evening)
            self.assertEqual(many_ways(evening), len(ways))
            self.assertEqual(ways_by_number(evening), dict(Counter(len(way) for way in ways)))
            self.plain((many_ways(evening), ways_by_number(evening)))
            if len(ways) <= 2000:
                self.assertEqual(all_ways(evening), sorted(ways))
                self.plain(all_ways(evening))

    def test_eight_people(self):
        for evening in eights(121):
            many = ways_by_number(evening)
            self.assertEqual(many_ways(evening), sum(many.values()))
            self.assertEqual((min(many), max(many)), (fewest(evening), greatest(evening)))
            by_drawings = Counter()
            for drawing in drawings(evening):
                by_drawings[len(drawing)] += many_ways_for(evening, drawing)
            self.assertEqual(many, dict(by_drawings))
        self.assertEqual(ways_by_number(Evening((ONE,) * 4, (ONE,) * 4)), {4: 576})
        self.assertEqual(ways_by_number(Evening(((7, 1),), (ONE,) * 7)), {7: 5040})

    def test_too_many_people(self):
        for evening in (NINE, FIVE_AND_FIVE, WIDE, Evening(((8, 1),), (ONE,) * 8)):
            for function in (many_ways, ways_by_number, all_ways, drawings):
                self.refused(TooMany, {"most": 8}, function, evening)

    def test_asked_again(self):
        for function in (many_ways, ways_by_number, all_ways, drawings):
            self.unchanged(function, P)


class TestAllWays(Checks, unittest.TestCase):
    def test_below_and_above_2000(self):
        evening = reference.evening([3, 9], [1, 2, 2, 3, 4])
        self.assertEqual(all_ways(evening), sorted(reference.all_ways(evening)))
        self.assertEqual(len(all_ways(evening)), 1992)
        evening = reference.evening([1, 1, 5], [1, 2, 2, 2], Fraction(1, 3))
        self.assertEqual(many_ways(evening), 2004)
        self.refused(TooMany, {"most": 2000}, all_ways, evening)
        for evening in eights(123):
            if many_ways(evening) > 2000:
                self.refused(TooMany, {"most": 2000}, all_ways, evening)

    def test_the_limit_itself(self):
        evening = Evening((ONE,) * 4, (ONE,) * 4)
        for most in (576, 577):
            with mock.patch.object(counting, "MOST_WAYS", most):
                self.assertEqual(len(all_ways(evening)), 576)
        with mock.patch.object(counting, "MOST_WAYS", 575):
            self.refused(TooMany, {"most": 575}, all_ways, evening)
        self.assertEqual(counting.MOST_WAYS, 2000)

    def test_ascending(self):
        evening = reference.evening([2, 3, 4], [4, 5], Fraction(1, 2))
        ways = all_ways(evening)
        self.assertTrue(all(low < high for low, high in zip(ways, ways[1:])))
        self.assertTrue(all(is_way(evening, way) for way in ways))


class TestNumbered(Checks, unittest.TestCase):
    def test_against_all(self):
        for evening in [P, Q, SINGLE] + reference.small_evenings(124, 40, 5):
            ways = sorted(reference.all_ways(evening))
            self.assertEqual([way_at(evening, number) for number in range(len(ways))], ways)
            self.assertEqual([way_number(evening, way) for way in ways], list(range(len(ways))))
            self.plain([way_at(evening, 0), way_number(evening, ways[-1])])

    def test_one_anothers_inverse(self):
        chance = random.Random(125)
        for evening in eights(126):
            many = many_ways(evening)
            numbers = sorted({0, many - 1} | {chance.randrange(many) for _ in range(6)})
            ways = [way_at(evening, number) for number in numbers]
            self.assertEqual([way_number(evening, way) for way in ways], numbers)
            self.assertTrue(all(reference.is_way(evening, way) for way in ways))
            self.assertEqual(sorted(ways), ways)
            way = reference.drawn_way(chance, evening)
            self.assertEqual(way_at(evening, way_number(evening, way)), way)

    def test_no_number(self):
        for number in (-1, 100, 101, 10 ** 39, -(10 ** 39)):
            self.refused(NoNumber, {}, way_at, P, number)
        for thing in strangers():
            if type(thing) is not int:
                self.refused(NoNumber, {}, way_at, P, thing)
        self.refused(NoNumber, {}, way_at, SINGLE, 1)
        self.refused(NoNumber, {}, way_at, SINGLE, False)
        self.assertEqual(way_at(SINGLE, 0), ((0, 0),))

    def test_no_way(self):
        for thing in strangers():
            self.refused(NoWay, {}, way_number, P, thing)
        for way in all_ways(P)[::7]:
            for place, (ower, taker) in enumerate(way):
                spoiled = [way[:place] + way[place + 1:], way[:place + 1] + way[place:],
                           way[:place] + ((ower, 3),) + way[place + 1:], way[:place] + ((3, taker),) + way[place + 1:],
                           way[:place] + ([ower, taker],) + way[place + 1:], way[:place] + (None,) + way[place + 1:],
                           way[:place] + ((ower, taker, 0),) + way[place + 1:], way + way[place:place + 1],
                           way[:place] + ((bool(ower), taker),) + way[place + 1:],
                           way[:place] + ((ower, str(taker)),) + way[place + 1:]]
                for thing in spoiled:
                    if thing != way or isinstance(thing[place][0], bool):
                        self.refused(NoWay, {}, way_number, P, thing)
            self.refused(NoWay, {}, way_number, P, list(way))
        self.refused(NoWay, {}, way_number, P, all_ways(Q)[0])

    def test_too_many_people_ahead(self):
        for evening in (NINE, FIVE_AND_FIVE, WIDE):
            for thing in (0, -1, None, (), 10 ** 39, True) + tuple(strangers()):
                self.refused(TooMany, {"most": 8}, way_at, evening, thing)
                self.refused(TooMany, {"most": 8}, way_number, evening, thing)
        self.refused(TooMany, {"most": 8}, way_number, FIVE_AND_FIVE, tuple((k, k) for k in range(5)))

    def test_asked_again(self):
        self.unchanged(way_at, P, 17)
        self.unchanged(way_number, P, way_at(P, 17))


class TestDrawings(Checks, unittest.TestCase):
    def test_against_all_ways(self):
        self.assertEqual(drawings(Q), [((0, 0), (1, 0), (1, 1)), ((0, 1), (1, 0), (1, 1))])
        for evening in [P, Q, SINGLE] + reference.small_evenings(127, 80, 6):
            self.assertEqual(drawings(evening), sorted({tuple(sorted(way)) for way in reference.all_ways(evening)}))
            self.plain(drawings(evening))

    def test_eight_people(self):
        chance = random.Random(128)
        for evening in eights(129):
            found = drawings(evening)
            known = set(found)
            self.assertEqual(found, sorted(known))
            self.assertTrue(all(is_drawing(evening, drawing) for drawing in found))
            for _ in range(50):
                self.assertIn(tuple(sorted(reference.drawn_way(chance, evening))), known)

    def test_partings_of_pairs(self):
        # With equal sums everywhere the drawings are just the partings into pairs.
        evening = Evening((ONE,) * 4, (ONE,) * 4)
        self.assertEqual(len(drawings(evening)), 24)
        self.assertEqual(len(partings(evening)), 24)

    def test_the_limit_itself(self):
        # No eight people could be found who have more than 384 drawings: so the limit is tried at a lower number.
        many = len(drawings(P))
        self.assertEqual(many, len({tuple(sorted(way)) for way in reference.all_ways(P)}))
        for most in (many, many + 1):
            with mock.patch.object(counting, "MOST_DRAWINGS", most):
                self.assertEqual(len(drawings(P)), many)
        with mock.patch.object(counting, "MOST_DRAWINGS", many - 1):
            self.refused(TooMany, {"most": many - 1}, drawings, P)
        self.assertEqual(counting.MOST_DRAWINGS, 2000)


if __name__ == "__main__":
    unittest.main()
