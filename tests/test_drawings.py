"""2.2 and 2.3: double payments, pieces, drawings."""

import random
import unittest
from collections import Counter
from itertools import combinations
from math import factorial

from quitsways.drawings import doubles, drawing, is_drawing, many_ways_for, pieces, way_for
from quitsways.errors import NoDrawing, NoWay, TooMany
from quitsways.evenings import Evening, is_even, joined, people
from quitsways.numbers import long_way
from quitsways.ways import is_way
from tests import reference
from tests.strangers import Checks, strangers

ONE = (1, 1)
TWO = (2, 1)
P = Evening((TWO, ONE, ONE), (TWO, ONE, ONE))
Q = Evening((ONE, (3, 1)), (TWO, TWO))
R = Evening((TWO, ONE, ONE), ((3, 1), ONE))
EVENINGS = [P, Q, R, Evening((ONE,), (ONE,)), Evening((ONE, ONE), (ONE, ONE)), Evening((ONE, TWO), (ONE, TWO)),
            Evening(((1, 2), (1, 3)), ((1, 3), (1, 2))), Evening(((3, 2), (1, 2)), (ONE, (1, 2), (1, 2))),
            Evening((TWO, TWO, TWO), ((3, 1), (3, 1))), Evening(((4, 3),), ((1, 3), (1, 3), (2, 3)))]


def star(takers):
    """One ower and so many takers."""
    return Evening(((takers, 1),), (ONE,) * takers)


class TestWays(Checks, unittest.TestCase):
    def test_doubles(self):
        self.assertEqual(doubles(Q, ((0, 0), (1, 1), (1, 0))), (2,))
        self.assertEqual(doubles(P, ((0, 0), (1, 1), (2, 2))), (0, 1, 2))
        self.assertEqual(doubles(P, ((1, 0), (2, 2), (0, 0), (0, 1))), (1, 3))
        self.assertEqual(doubles(R, ((1, 1), (0, 0), (2, 0))), (0, 2))
        self.assertEqual(doubles(Evening((ONE,), (ONE,)), ((0, 0),)), (0,))

    def test_pieces(self):
        self.assertEqual(pieces(P, ((0, 0), (1, 1), (2, 2))), [((0,), (0,)), ((1,), (1,)), ((2,), (2,))])
        self.assertEqual(pieces(P, ((2, 2), (1, 1), (0, 0))), [((0,), (0,)), ((1,), (1,)), ((2,), (2,))])
        self.assertEqual(pieces(P, ((1, 0), (2, 2), (0, 0), (0, 1))), [((0, 1), (0, 1)), ((2,), (2,))])
        self.assertEqual(pieces(P, ((0, 1), (0, 2), (1, 0), (2, 0))), [((0,), (1, 2)), ((1, 2), (0,))])
        self.assertEqual(pieces(Q, ((0, 0), (1, 1), (1, 0))), [((0, 1), (0, 1))])

    def test_drawing(self):
        self.assertEqual(drawing(Q, ((0, 0), (1, 1), (1, 0))), ((0, 0), (1, 0), (1, 1)))
        self.assertEqual(drawing(P, ((2, 2), (1, 1), (0, 0))), ((0, 0), (1, 1), (2, 2)))

    def test_first_fact(self):
        for evening in EVENINGS:
            for way in reference.all_ways(evening):
                found = pieces(evening, way)
                places = doubles(evening, way)
                self.assertEqual(sorted(found), found)
                self.assertEqual(len(way), people(evening) - len(found))
                lasts = []
                for group in found:
                    self.assertIs(is_even(evening, group), True)
                    inside = [k for k, pair in enumerate(way) if pair[0] in group[0]]
                    self.assertEqual(inside, [k for k, pair in enumerate(way) if pair[1] in group[1]])
                    self.assertEqual(len(inside), len(group[0]) + len(group[1]) - 1)
                    lasts.append(inside[-1])
                self.assertEqual(places, tuple(sorted(lasts)))
                self.assertEqual(drawing(evening, way), tuple(sorted(set(way))))
                self.assertEqual(len(set(way)), len(way))
                self.plain((found, places, drawing(evening, way)))

    def test_no_way(self):
        wrong = [(), ((0, 0),), ((0, 0), (1, 1)), [(0, 0), (1, 1), (1, 0)], ((0, 0), (1, 0), (1, 0)),
                 ((0, 0), (1, 1), (1, 0), (1, 0)), ((0, 0), (1, 1), (True, 0)), ((0, 0), (1, 1), [1, 0]),
                 ((False, 0), (1, 1), (1, 0)), ((0, 0), (1, 1), (1, 2)), ((0, 0), (1, 1), (-1, 0)),
                 ((1, 0), (1, 1), (0, 0)), ((0, 0), (1, 1), (1, 0), ()), ((0, 0), (0, 0), (1, 1), (1, 0))]
        for thing in wrong + strangers():
            for function in (doubles, pieces, drawing):
                self.refused(NoWay, {}, function, Q, thing)

    def test_asked_again(self):
        way = ((1, 0), (2, 2), (0, 0), (0, 1))
        for function in (doubles, pieces, drawing):
            self.unchanged(function, P, way)
        drawn = drawing(P, way)
        for function in (is_drawing, way_for, many_ways_for):
            self.unchanged(function, P, drawn)

    def test_many_people(self):
        wide = Evening((ONE,) * 100, (ONE,) * 100)
        wide = joined(wide, wide)
        way = tuple((k, (k + 1) % 200) for k in range(199, -1, -1))
        self.assertEqual(pieces(wide, way), [((k,), ((k + 1) % 200,)) for k in range(200)])
        self.assertEqual(doubles(wide, way), tuple(range(200)))
        self.assertEqual(drawing(wide, way), tuple(sorted(way)))


class TestDrawings(Checks, unittest.TestCase):
    def test_all_there_are(self):
        for evening in EVENINGS:
            ways = reference.all_ways(evening)
            counts = Counter(tuple(sorted(way)) for way in ways)
            pairs = [(ower, taker) for ower in range(len(evening.owed)) for taker in range(len(evening.due))]
            for size in range(people(evening) + 1):
                for thing in combinations(pairs, size):
                    self.flag(thing in counts, is_drawing, evening, thing)
                    if thing in counts:
                        self.assertEqual(many_ways_for(evening, thing), counts[thing])
                        way = way_for(evening, thing)
                        self.flag(True, is_way, evening, way)
                        self.assertTrue(reference.is_way(evening, way))
                        self.assertEqual(drawing(evening, way), thing)
                        self.plain(way)
                    else:
                        self.refused(NoDrawing, {}, way_for, evening, thing)
                        self.refused(NoDrawing, {}, many_ways_for, evening, thing)

    def test_no_drawings(self):
        wrong = [((0, 0), (1, 1), (1, 0)), ((1, 1), (1, 0), (0, 0)), [(0, 0), (1, 0), (1, 1)],
                 ((0, 0), (0, 0), (1, 0), (1, 1)), ((0, 0), (1, 0), (1, 0), (1, 1)), ((0, 0), (1, 0), (1, 1), (1, 1)),
                 ((0, 0), (1, 0), (1, 2)), ((0, 0), (1, 1), (2, 0)), ((-1, 0), (0, 0), (1, 1)), ((0, 0), (1, 0)),
                 ((0, 0), (True, 0), (1, 1)), ((0, False), (1, 0), (1, 1)), ((0, 0), [1, 0], (1, 1)), (),
                 ((0, 0), (0, 1), (1, 0), (1, 1)), ((0, 0), (0, 1), (1, 1)), ((0, 0), (1, 0), (1, 1, 1)),
                 ((0, 0), (1, 0), (10 ** 39, 1)), ((0, 0), None, (1, 1)), ((0, 0), (1, 0), (1, "1"))]
        for thing in wrong + strangers():
            self.flag(False, is_drawing, Q, thing)
            self.refused(NoDrawing, {}, way_for, Q, thing)
            self.refused(NoDrawing, {}, many_ways_for, Q, thing)

    def test_many_ways_for(self):
        self.assertEqual(many_ways_for(Q, ((0, 0), (1, 0), (1, 1))), 4)
        self.assertEqual(many_ways_for(P, ((0, 0), (1, 1), (2, 2))), 6)
        for takers in range(1, 10):
            self.assertEqual(many_ways_for(star(takers), tuple((0, k) for k in range(takers))), factorial(takers))

    def test_ten_and_eleven_pairs(self):
        self.assertEqual(many_ways_for(star(10), tuple((0, k) for k in range(10))), factorial(10))
        ones = Evening((ONE,) * 10, (ONE,) * 10)
        self.assertEqual(many_ways_for(ones, tuple((k, k) for k in range(10))), factorial(10))
        self.refused(TooMany, {"most": 10}, many_ways_for, star(11), tuple((0, k) for k in range(11)))
        elevens = Evening((ONE,) * 11, (ONE,) * 11)
        self.refused(TooMany, {"most": 10}, many_ways_for, elevens, tuple((k, k) for k in range(11)))
        self.refused(TooMany, {"most": 10}, many_ways_for, star(100), tuple((0, k) for k in range(100)))
        self.assertEqual(len(way_for(star(11), tuple((0, k) for k in range(11)))), 11)
        self.flag(True, is_drawing, star(100), tuple((0, k) for k in range(100)))

    def test_no_drawing_ahead_of_too_many(self):
        for thing in (tuple((0, k) for k in range(12)), tuple((0, k) for k in range(12, 0, -1)),
                      [(0, k) for k in range(12)], ((0, 0),) + tuple((0, k) for k in range(11))):
            self.refused(NoDrawing, {}, many_ways_for, star(11), thing)

    def test_many_people(self):
        chance = random.Random(4)
        for _ in range(5):
            evening = reference.some_evening(chance, 100, 100, 9)
            way = long_way(evening)
            drawn = drawing(evening, way)
            self.flag(True, is_drawing, evening, drawn)
            self.flag(False, is_drawing, evening, drawn[1:])
            found = way_for(evening, drawn)
            self.assertTrue(reference.is_way(evening, found))
            self.assertEqual(tuple(sorted(found)), drawn)
            self.assertEqual(sum(len(group[0]) + len(group[1]) for group in pieces(evening, found)), 200)
            self.assertEqual(len(pieces(evening, found)), 200 - len(found))


if __name__ == "__main__":
    unittest.main()
