"""9.1 and 9.2: queues."""

import random
import unittest
from fractions import Fraction
from itertools import permutations

from quitsways.errors import NoOrder, TooMany
from quitsways.evenings import Evening, joined, mirrored, people
from quitsways.parts import most_parts
from quitsways.queues import (queue_least, queue_most, queue_number, queue_unit, queue_way, queues_alike,
                              unlike_queues)
from tests import reference
from tests.strangers import Checks, strangers

ONE = (1, 1)
TWO = (2, 1)
P = Evening((TWO, ONE, ONE), (TWO, ONE, ONE))
Q = Evening((ONE, (3, 1)), (TWO, TWO))
SINGLE = Evening((ONE,), (ONE,))
WIDE = Evening((ONE,) * 100, (ONE,) * 100)
NO_ORDERS = [
    (), (0,), (0, 1), (0, 1, 2, 3), (0, 0, 1), (0, 1, 1), (2, 2, 2), (0, 1, 3), (1, 2, 3), (-1, 0, 1), (0, 1, 10 ** 39),
    (0, True, 2), (False, 1, 2), (True, 0, 2), [0, 1, 2], {0: 0, 1: 1, 2: 2}, range(3), "012", b"\0\1\2", ("0", "1", "2"),
    (0, 1, "2"), (0, 1, None), ((0,), (1,), (2,)), (0, 1, (2,)), 0, None, ((0, 1, 2),), iter((0, 1, 2)), (0, 1, 2, 2),
    (0, 1, 2, ()), ([0], 1, 2),
]


def by_front(evening, owers, takers):
    """The way that comes of two orders, one payment after the other."""
    owing, awaiting = reference.start(evening)
    owers, takers = list(owers), list(takers)
    row = []
    while owers:
        ower, taker = owers[0], takers[0]
        lesser = min(owing[ower], awaiting[taker])
        owing[ower] -= lesser
        awaiting[taker] -= lesser
        row.append((ower, taker))
        owers = owers[1:] if owing[ower] == 0 else owers
        takers = takers[1:] if awaiting[taker] == 0 else takers
    return tuple(row)


def all_orders(evening):
    """All pairs of orders, ascending."""
    return [(owers, takers) for owers in permutations(range(len(evening.owed)))
            for takers in permutations(range(len(evening.due)))]


def drawn_orders(chance, evening):
    """A drawn pair of orders."""
    return (tuple(chance.sample(range(len(evening.owed)), len(evening.owed))),
            tuple(chance.sample(range(len(evening.due)), len(evening.due))))


class TestWays(Checks, unittest.TestCase):
    def way(self, evening, owers, takers):
        """The way and the number of two orders."""
        found = queue_way(evening, owers, takers)
        self.assertIs(type(found), tuple)
        self.plain(found)
        self.assertEqual(found, by_front(evening, owers, takers))
        self.assertTrue(reference.is_way(evening, found))
        self.assertEqual(queue_number(evening, owers, takers), len(found))
        self.assertIs(type(queue_number(evening, owers, takers)), int)

    def test_some(self):
        self.assertEqual(queue_way(Q, (0, 1), (0, 1)), ((0, 0), (1, 0), (1, 1)))
        self.assertEqual(queue_way(Q, (1, 0), (0, 1)), ((1, 0), (1, 1), (0, 1)))
        self.assertEqual(queue_way(P, (0, 1, 2), (0, 1, 2)), ((0, 0), (1, 1), (2, 2)))
        self.assertEqual(queue_number(P, (0, 1, 2), (0, 1, 2)), 3)
        self.assertEqual(queue_number(P, (0, 1, 2), (1, 2, 0)), 4)
        self.assertEqual(queue_way(P, (1, 0, 2), (0, 2, 1)), ((1, 0), (0, 0), (0, 2), (2, 1)))
        self.assertEqual(queue_way(SINGLE, (0,), (0,)), ((0, 0),))

    def test_against_reference(self):
        chance = random.Random(80)
        for evening in [P, Q] + reference.small_evenings(80, 60, 5):
            for owers, takers in all_orders(evening):
                self.way(evening, owers, takers)
        for evening in reference.small_evenings(81, 60, 30):
            self.way(evening, *drawn_orders(chance, evening))

    def test_many_people(self):
        chance = random.Random(82)
        for evening in (WIDE, joined(WIDE, WIDE), Evening(((100, 1),), (ONE,) * 100),
                        reference.some_evening(chance, 100, 100, 10 ** 6, Fraction(3, 7))):
            self.way(evening, *drawn_orders(chance, evening))
        self.refused(NoOrder, {}, queue_way, WIDE, tuple(range(99)), tuple(range(100)))
        self.refused(NoOrder, {}, queue_way, WIDE, tuple(range(100)), tuple(range(101)))

    def test_no_order(self):
        right = (2, 0, 1)
        for wrong in NO_ORDERS + strangers():
            for function in (queue_way, queue_number):
                self.refused(NoOrder, {}, function, P, wrong, right)
                self.refused(NoOrder, {}, function, P, right, wrong)
                self.refused(NoOrder, {}, function, P, wrong, None)
        evening = Evening(((3, 1),), (ONE, ONE, ONE))
        self.way(evening, (0,), (1, 2, 0))
        self.refused(NoOrder, {}, queue_way, evening, (1, 2, 0), (0,))
        self.refused(NoOrder, {}, queue_way, evening, (0,), (0,))
        self.refused(NoOrder, {}, queue_way, evening, (False,), (0, 1, 2))

    def test_asked_again(self):
        self.unchanged(queue_way, P, (0, 1, 2), (1, 2, 0))
        self.unchanged(queue_number, P, (0, 1, 2), (1, 2, 0))
        for evening in (P, Q, SINGLE):
            for function in (queue_least, queue_most, queue_unit, queues_alike, unlike_queues):
                self.unchanged(function, evening)


class TestAllOrders(Checks, unittest.TestCase):
    def ends(self, evening):
        """The least and the greatest number, each with the least pair of orders that has it."""
        numbers = [(len(by_front(evening, *orders)), orders) for orders in all_orders(evening)]
        least = min(number for number, _ in numbers)
        most = max(number for number, _ in numbers)
        wanted = [(end, min(orders for number, orders in numbers if number == end)) for end in (least, most)]
        self.assertEqual([queue_least(evening), queue_most(evening)], wanted)
        self.plain((queue_least(evening), queue_most(evening)))
        self.assertIs(type(queue_least(evening)), tuple)

    def test_some(self):
        self.assertEqual(queue_least(P), (3, ((0, 1, 2), (0, 1, 2))))
        self.assertEqual(queue_most(P), (4, ((0, 1, 2), (1, 0, 2))))
        self.assertEqual(queue_least(Q), (3, ((0, 1), (0, 1))))
        self.assertEqual(queue_most(Q), (3, ((0, 1), (0, 1))))
        self.assertEqual(queue_least(SINGLE), (1, ((0,), (0,))))
        self.assertEqual(queue_least(reference.evening([1, 2, 3], [3, 2, 1])), (3, ((0, 1, 2), (2, 1, 0))))

    def test_against_all_orders(self):
        for evening in [P, Q] + reference.small_evenings(83, 120, 6) + reference.small_evenings(84, 10, 7):
            self.ends(evening)

    def test_nine_and_ten_people(self):
        chance = random.Random(85)
        for owers in range(1, 9):
            evening = reference.some_evening(chance, owers, 9 - owers, 3, Fraction(1, 2))
            least, least_orders = queue_least(evening)
            most, most_orders = queue_most(evening)
            self.assertEqual(least, people(evening) - most_parts(evening))
            self.assertEqual(len(by_front(evening, *least_orders)), least)
            self.assertEqual(len(by_front(evening, *most_orders)), most)
            for _ in range(100):
                orders = drawn_orders(chance, evening)
                number = len(by_front(evening, *orders))
                self.assertTrue(least <= number <= most)
                self.assertFalse(number == least and orders < least_orders)
                self.assertFalse(number == most and orders < most_orders)
        for evening in (Evening((ONE,) * 5, (ONE,) * 5), Evening(((9, 1),), (ONE,) * 9), Evening((ONE,) * 9, ((9, 1),)), WIDE):
            self.refused(TooMany, {"most": 9}, queue_least, evening)
            self.refused(TooMany, {"most": 9}, queue_most, evening)


class TestUnits(Checks, unittest.TestCase):
    def test_owed(self):
        for owed, due, amount in (([3, 3, 3], [1, 4, 4], (3, 1)), ([2, 2], [1, 3], TWO), ([2] * 4, [3, 5], TWO),
                                  ([5, 5, 5, 5], [7, 2, 2, 7, 2], (5, 1)), ([4] * 3, [6, 2, 2, 2], (4, 1))):
            self.assertEqual(queue_unit(reference.evening(owed, due)), ("owed", amount))
            self.assertEqual(queue_unit(reference.evening(due, owed)), ("due", amount))
            third = reference.amount(reference.fraction(amount) / 3)
            self.assertEqual(queue_unit(reference.evening(owed, due, Fraction(1, 3))), ("owed", third))
            self.assertEqual(queue_unit(reference.evening(due, owed, Fraction(1, 3))), ("due", third))

    def test_both(self):
        for evening in (SINGLE, WIDE, Evening((TWO,) * 3, ((3, 1),) * 2), Evening(((3, 1),) * 2, (TWO,) * 3),
                        Evening(((1, 2),) * 2, (ONE,)), Evening((ONE,), ((1, 2),) * 2)):
            self.assertEqual(queue_unit(evening), ("owed", evening.owed[0]))

    def test_none(self):
        for owed, due in (([2, 1, 1], [2, 1, 1]), ([3, 3], [1, 5]), ([3, 3, 3], [1, 1, 2, 5]), ([1, 2], [2, 1]),
                          ([4, 4], [1, 2, 5]), ([3, 3], [4, 2]), ([1, 2, 3], [3, 2, 1])):
            for unit in (1, Fraction(5, 3)):
                self.assertIs(queue_unit(reference.evening(owed, due, unit)), None)
                self.assertIs(queue_unit(reference.evening(due, owed, unit)), None)
        self.assertEqual(queue_unit(Q), ("due", TWO))
        self.assertIs(queue_unit(P), None)

    def test_against_the_words(self):
        for evening in reference.small_evenings(86, 400, 8):
            owing, awaiting = reference.start(evening)
            fits = [len(set(side)) == 1 and len({each % side[0] for each in other}) == 1
                    for side, other in ((owing, awaiting), (awaiting, owing))]
            wanted = ("owed", evening.owed[0]) if fits[0] else ("due", evening.due[0]) if fits[1] else None
            self.assertEqual(queue_unit(evening), wanted)
            self.assertEqual(queue_unit(mirrored(evening)) is None, wanted is None)


class TestAlike(Checks, unittest.TestCase):
    def alike(self, evening, wanted):
        """Whether all orders are alike, and if not, that two pairs of orders are told."""
        self.flag(wanted, queues_alike, evening)
        found = unlike_queues(evening)
        if wanted:
            self.assertIs(found, None)
            return
        self.plain(found)
        self.assertEqual((type(found), len(found)), (tuple, 2))
        for orders in found:
            self.assertEqual((type(orders), len(orders)), (tuple, 2))
            self.assertEqual([sorted(order) for order in orders],
                             [list(range(len(evening.owed))), list(range(len(evening.due)))])
            self.assertEqual([type(order) for order in orders], [tuple, tuple])
        self.assertNotEqual(len(by_front(evening, *found[0])), len(by_front(evening, *found[1])))

    def test_against_all_orders(self):
        alike = 0
        for evening in [P, Q, SINGLE] + reference.small_evenings(87, 200, 6):
            numbers = {len(by_front(evening, *orders)) for orders in all_orders(evening)}
            self.alike(evening, len(numbers) == 1)
            alike += len(numbers) == 1
        self.assertTrue(50 < alike < 180)

    def test_ninth_fact(self):
        for evening in [P, Q] + reference.small_evenings(88, 60, 10):
            self.alike(evening, queue_unit(evening) is not None or most_parts(evening) == 1)

    def test_rests_that_are_not_nought(self):
        for owed, due in (([3, 3, 3], [1, 4, 4]), ([3] * 4, [4, 4, 4]), ([3] * 6, [1, 1, 4, 4, 4, 4]), ([2] * 4, [1, 1, 3, 3]),
                          ([5] * 4, [2, 2, 2, 7, 7]), ([4] * 5, [2, 6, 2, 6, 2, 2])):
            for sides in ((owed, due), (due, owed)):
                evening = reference.evening(*sides)
                self.assertIsNot(queue_unit(evening), None)
                self.alike(evening, True)
        self.assertGreater(most_parts(reference.evening([2] * 4, [1, 1, 3, 3])), 1)

    def test_fourteen_and_fifteen_people(self):
        chance = random.Random(89)
        for owers in range(1, 14):
            evening = reference.some_evening(chance, owers, 14 - owers, 4)
            self.alike(evening, queue_unit(evening) is not None or most_parts(evening) == 1)
        for owed, due in (([2, 2, 2, 1, 1, 1, 1], [1, 1, 1, 1, 1, 1, 2, 2]), ([2] + [1] * 99, [2] + [1] * 99),
                          ([6, 8], [1] * 12 + [2]), ([1, 2, 12], [1, 2] + [1] * 10 + [2])):
            for sides in ((owed, due), (due, owed)):
                evening = reference.evening(*sides)
                self.assertIs(queue_unit(evening), None)
                self.refused(TooMany, {"most": 14}, queues_alike, evening)
                self.refused(TooMany, {"most": 14}, unlike_queues, evening)

    def test_many_people_with_a_unit(self):
        for owed, due in (([1] * 100, [1] * 100), ([3] * 8, [1, 1, 1, 1, 4, 4, 4, 4, 4]), ([2] * 100, [1, 3] * 50),
                          ([99], [1] * 99), ([7] * 13, [91]), ([2] * 8, [1, 3, 1, 3, 1, 3, 1, 3]), ([9, 6], [1] * 15)):
            for sides in ((owed, due), (due, owed)):
                evening = reference.evening(*sides)
                self.assertIsNot(queue_unit(evening), None, sides)
                self.alike(evening, True)
        self.alike(joined(WIDE, WIDE), True)


if __name__ == "__main__":
    unittest.main()
