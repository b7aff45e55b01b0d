"""The document's examples."""

import unittest

from quitsways.alike import is_alike, unit_of
from quitsways.cheapest import cheapest
from quitsways.counting import many_ways
from quitsways.drawings import many_ways_for, pieces
from quitsways.draws import mean
from quitsways.evenings import Evening, measure, total
from quitsways.numbers import fewest, greatest, loaves
from quitsways.pairs import passing, surely
from quitsways.parts import least_groups, most_parts
from quitsways.queues import queue_number
from quitsways.settlements import settled
from quitsways.texts import evening_text
from quitsways.ways import paid
from quitsways.webs import is_safe, missing

P = Evening(((2, 1), (1, 1), (1, 1)), ((2, 1), (1, 1), (1, 1)))
Q = Evening(((1, 1), (3, 1)), ((2, 1), (2, 1)))


class TestExamples(unittest.TestCase):
    def test_e01(self):
        self.assertEqual(measure(Q), (1, 1))
        self.assertEqual(total(P), (4, 1))

    def test_e02(self):
        self.assertEqual(paid(Q, ((0, 0), (1, 1), (1, 0))), ((1, 1), (2, 1), (1, 1)))

    def test_e03(self):
        self.assertEqual(pieces(P, ((0, 0), (1, 1), (2, 2))), [((0,), (0,)), ((1,), (1,)), ((2,), (2,))])

    def test_e04(self):
        self.assertEqual(many_ways_for(Q, ((0, 0), (1, 0), (1, 1))), 4)

    def test_e05(self):
        self.assertEqual(most_parts(P), 3)
        self.assertEqual(least_groups(Q), [((0, 1), (0, 1))])

    def test_e06(self):
        self.assertEqual((fewest(P), greatest(P)), (3, 4))
        self.assertEqual(loaves(4, 6), (8, 9))

    def test_e07(self):
        self.assertIs(unit_of(Q), None)
        self.assertIs(is_alike(Q), True)

    def test_e08(self):
        self.assertEqual(settled(Q, ((0, 0), (1, 1), (1, 0))), (((1, 1), (0, 1)), ((1, 1), (2, 1))))

    def test_e09(self):
        self.assertEqual(cheapest(Q, ((0, 1), (0, 0)))[0], (0, 1))

    def test_e10(self):
        self.assertEqual(passing(Q, 1, 0), [(1, 1), (2, 1)])
        self.assertEqual(surely(Q), [(1, 0), (1, 1)])

    def test_e11(self):
        self.assertEqual(missing(Q, ((0, 0), (1, 0), (1, 1))), ((0, 1),))
        self.assertIs(is_safe(Q, ((0, 0), (1, 0), (1, 1))), False)

    def test_e12(self):
        self.assertEqual(queue_number(P, (0, 1, 2), (1, 2, 0)), 4)

    def test_e13(self):
        self.assertEqual(many_ways(Q), 8)

    def test_e14(self):
        self.assertEqual(mean(Q), (3, 1))

    def test_e15(self):
        self.assertEqual(evening_text(Q), "owed 1 3\ndue 2 2\n")


if __name__ == "__main__":
    unittest.main()
