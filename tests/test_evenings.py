"""1.1 to 1.3: evenings and their groups."""

import random
import unittest
from fractions import Fraction

from quitsways import numbers
from quitsways.errors import BadEvening, NoAmount, NotEven
from quitsways.evenings import Evening, is_even, is_group, joined, measure, mirrored, part, people, scaled, total
from quitsways.ways import is_way, led, paid, rests
from tests import reference
from tests.strangers import Checks, strangers

ONE = (1, 1)
TWO = (2, 1)
P = Evening((TWO, ONE, ONE), (TWO, ONE, ONE))
Q = Evening((ONE, (3, 1)), (TWO, TWO))
BIG = 10 ** 40 - 1
WRONG_AMOUNTS = [
    (0, 1), (-1, 1), (-1, 2), (1, 0), (0, 0), (1, -1), (-1, -1), (-2, -1), (2, 2), (2, 4), (10, 5), (0, 2), (4, 2),
    (True, 1), (1, True), (True, True), (False, 1), [1, 1], (1, 1, 1), (1,), (), 1, "11", ("1", "1"), (1, None),
    (None, 1), (1, "1"), ((1,), 1), (1, (1,)), b"\1\1", {1: 1}, {1: 1, 2: 1}, range(1, 3), (3 * BIG, 6 * BIG),
    (b"1", 1), ([1], 1),
]


class TestEvening(Checks, unittest.TestCase):
    def test_attributes(self):
        owed = ((1, 2), (3, 2))
        due = ((2, 1),)
        evening = Evening(owed, due)
        self.assertEqual(vars(evening), {"owed": ((1, 2), (3, 2)), "due": ((2, 1),)})
        self.assertEqual((owed, due), (((1, 2), (3, 2)), ((2, 1),)))
        self.plain(evening.owed)

    def test_sizes(self):
        for many in (1, 2, 99, 100):
            self.assertEqual(len(Evening((ONE,) * many, ((many, 1),)).owed), many)
            self.assertEqual(len(Evening(((many, 1),), (ONE,) * many).due), many)
            self.assertEqual(people(Evening((ONE,) * many, (ONE,) * many)), 2 * many)
        for many in (0, 101, 102, 500):
            self.refused(BadEvening, {"part": "owed"}, Evening, (ONE,) * many, ((max(many, 1), 1),))
            self.refused(BadEvening, {"part": "due"}, Evening, ((max(many, 1), 1),), (ONE,) * many)
            self.refused(BadEvening, {"part": "owed"}, Evening, (ONE,) * many, (ONE,) * many)

    def test_no_amounts(self):
        for wrong in WRONG_AMOUNTS:
            for side in ((wrong,), (ONE, wrong), (wrong, ONE), (ONE, wrong, ONE)):
                self.refused(BadEvening, {"part": "owed"}, Evening, side, (ONE,))
                self.refused(BadEvening, {"part": "owed"}, Evening, side, side)
                self.refused(BadEvening, {"part": "due"}, Evening, (ONE,), side)
        self.refused(BadEvening, {"part": "owed"}, Evening, (ONE,) * 99 + ((0, 1),), (ONE,) * 99)

    def test_no_tuples(self):
        for wrong in ([ONE], {ONE: ONE}, ONE, "1", 1, None, ((ONE,),), iter((ONE,)), range(1)):
            self.refused(BadEvening, {"part": "owed"}, Evening, wrong, (ONE,))
            self.refused(BadEvening, {"part": "due"}, Evening, (ONE,), wrong)

    def test_strangers(self):
        for thing in strangers():
            self.refused(BadEvening, {"part": "owed"}, Evening, thing, (ONE,))
            self.refused(BadEvening, {"part": "due"}, Evening, (ONE,), thing)
            self.refused(BadEvening, {"part": "owed"}, Evening, (ONE, thing), thing)
            self.refused(BadEvening, {"part": "due"}, Evening, (ONE,), (ONE, (thing, None)))
            self.refused(BadEvening, {"part": "due"}, Evening, (ONE,), (ONE, ("1", thing)))

    def test_sums(self):
        for owed, due in (((ONE,), (TWO,)), ((ONE, ONE), (ONE,)), (((1, 2), (1, 3)), ((2, 5),)),
                          (((BIG, 1),), ((BIG - 1, 1),)), (((1, BIG),), ((1, BIG - 1),))):
            self.refused(BadEvening, {"part": "sums"}, Evening, owed, due)
            self.refused(BadEvening, {"part": "sums"}, Evening, due, owed)
        Evening(((1, 2), (1, 3)), ((5, 6),))
        Evening(((BIG, 1),), ((BIG - 1, 1), ONE))
        Evening(((1, BIG), (1, BIG - 1)), ((1, BIG - 1), (1, BIG)))

    def test_equal(self):
        one = Evening(tuple([(1, 2), (3, 2)]), tuple([(2, 1)]))
        other = Evening(tuple([tuple([1, 2]), tuple([3, 2])]), tuple([tuple([2, 1])]))
        self.assertTrue(one == other)
        self.assertFalse(one != other)
        for unlike in (Evening(((3, 2), (1, 2)), ((2, 1),)), Evening(((2, 1),), ((1, 2), (3, 2))),
                       Evening(((1, 2), (3, 2)), (ONE, ONE)), Evening((ONE, ONE), ((2, 1),))):
            self.assertFalse(one == unlike)
            self.assertTrue(one != unlike)

    def test_equal_to_nothing_else(self):
        evening = Evening((ONE,), (ONE,))
        others = [thing for thing in strangers() if not isinstance(thing, Evening)]
        for thing in others + [((ONE,), (ONE,)), vars(evening), (evening,), [evening]]:
            self.assertIs(evening == thing, False)
            self.assertIs(thing == evening, False)
            self.assertIs(evening != thing, True)


class TestSums(Checks, unittest.TestCase):
    def test_whole(self):
        self.assertEqual(total(P), (4, 1))
        self.assertEqual(people(P), 6)
        self.assertEqual(measure(P), ONE)
        self.assertEqual(measure(Q), ONE)
        twelve = Evening(((12, 1), (18, 1)), ((30, 1),))
        self.assertEqual((total(twelve), people(twelve), measure(twelve)), ((30, 1), 3, (6, 1)))
        self.plain((total(twelve), people(twelve), measure(twelve)))

    def test_fractions(self):
        evening = Evening(((1, 2), (1, 3)), ((5, 6),))
        self.assertEqual((total(evening), measure(evening)), ((5, 6), (1, 6)))
        evening = Evening(((4, 3), (10, 9)), ((22, 9),))
        self.assertEqual((total(evening), measure(evening)), ((22, 9), (2, 9)))
        evening = Evening(((1, 2), (1, 2)), (ONE,))
        self.assertEqual((total(evening), measure(evening)), (ONE, (1, 2)))
        evening = Evening(((6, 5), (9, 5)), ((3, 1),))
        self.assertEqual((total(evening), measure(evening)), ((3, 1), (3, 5)))

    def test_measure_of_both_sides(self):
        self.assertEqual(measure(Evening(((4, 1), (4, 1)), ((2, 1), (6, 1)))), (2, 1))
        self.assertEqual(measure(Evening(((2, 1), (6, 1)), ((4, 1), (4, 1)))), (2, 1))
        self.assertEqual(measure(Evening((ONE, ONE), ((1, 2), (3, 2)))), (1, 2))

    def test_forty_figures(self):
        evening = Evening(((BIG, 1), (BIG, 1)), ((BIG, 1), (BIG, 1)))
        self.assertEqual((total(evening), measure(evening)), ((2 * BIG, 1), (BIG, 1)))
        evening = Evening(((1, BIG), (1, BIG - 1)), ((1, BIG - 1), (1, BIG)))
        self.assertEqual(total(evening), (2 * BIG - 1, BIG * (BIG - 1)))
        self.assertEqual(measure(evening), (1, BIG * (BIG - 1)))

    def test_measure_is_greatest(self):
        for evening in reference.small_evenings(1, 200, 9):
            unit = reference.fraction(measure(evening))
            counts = [reference.fraction(each) / unit for each in evening.owed + evening.due]
            self.assertTrue(all(count.denominator == 1 for count in counts))
            for factor in range(2, int(max(counts)) + 1):
                self.assertFalse(all(count % factor == 0 for count in counts))
            self.assertEqual(reference.fraction(total(evening)), sum(map(reference.fraction, evening.due)))


class TestMade(Checks, unittest.TestCase):
    def test_scaled(self):
        self.assertEqual(scaled(Q, (1, 2)), Evening(((1, 2), (3, 2)), (ONE, ONE)))
        self.assertEqual(scaled(Q, (2, 3)).owed, ((2, 3), TWO))
        self.assertEqual(scaled(Q, ONE), Q)
        self.assertEqual(scaled(Evening(((3, 4),), ((3, 4),)), (4, 3)), Evening((ONE,), (ONE,)))
        self.assertEqual(Q, Evening((ONE, (3, 1)), (TWO, TWO)))
        big = scaled(scaled(Q, (BIG, BIG - 1)), (BIG, BIG - 1))
        self.assertEqual(reference.fraction(total(big)), 4 * Fraction(BIG, BIG - 1) ** 2)
        self.plain((big.owed, big.due))

    def test_no_amount(self):
        for wrong in WRONG_AMOUNTS + strangers():
            self.refused(NoAmount, {}, scaled, Q, wrong)

    def test_mirrored(self):
        self.assertEqual(vars(mirrored(Q)), {"owed": (TWO, TWO), "due": (ONE, (3, 1))})
        self.assertEqual(mirrored(mirrored(Q)), Q)

    def test_joined(self):
        self.assertEqual(vars(joined(Q, P)), {"owed": (ONE, (3, 1), TWO, ONE, ONE), "due": (TWO, TWO, TWO, ONE, ONE)})
        self.assertEqual(vars(joined(P, Q)), {"owed": (TWO, ONE, ONE, ONE, (3, 1)), "due": (TWO, ONE, ONE, TWO, TWO)})
        self.assertEqual(joined(Q, Q).owed, (ONE, (3, 1), ONE, (3, 1)))
        self.assertIs(type(joined(P, Q)), Evening)

    def test_beyond_the_sizes(self):
        wide = Evening((ONE,) * 100, (ONE,) * 100)
        wider = joined(joined(wide, mirrored(wide)), scaled(wide, (2, BIG)))
        self.assertEqual((people(wider), len(wider.owed), len(wider.due)), (600, 300, 300))
        self.assertEqual(reference.fraction(total(wider)), 200 + Fraction(200, BIG))
        self.assertEqual(measure(wider), (1, BIG))
        self.assertEqual(people(joined(wider, wider)), 1200)
        self.assertEqual(mirrored(wider), wider)
        group = (tuple(range(101)), tuple(range(101)))
        self.flag(True, is_group, wider, group)
        self.flag(True, is_even, wider, group)
        self.assertEqual(vars(part(wider, group)), {"owed": (ONE,) * 101, "due": (ONE,) * 101})
        self.assertEqual(people(part(part(wider, group), group)), 202)
        way = tuple((number, number) for number in range(300))
        self.flag(True, is_way, wider, way)
        self.assertEqual(paid(wider, way)[199:], (ONE,) + ((2, BIG),) * 100)
        self.assertEqual(rests(wider, way[:1])[0][:2], ((0, 1), ONE))
        self.assertEqual(len(led(wider, lambda left: (left[0].index(ONE), left[1].index(ONE))
                                 if ONE in left[0] else (left[0].index((2, BIG)), left[1].index((2, BIG))))), 300)
        self.assertEqual(numbers.greatest(wider), 599)
        self.assertEqual(scaled(wider, (BIG, 2)).owed[-1], ONE)
        deep = Q
        for _ in range(20):
            deep = scaled(deep, (BIG - 1, BIG))
        self.assertEqual(reference.fraction(measure(deep)), Fraction(BIG - 1, BIG) ** 20)
        self.assertEqual(numbers.fewest(deep), 3)
        self.flag(True, is_way, deep, ((0, 0), (1, 1), (1, 0)))

    def test_asked_again(self):
        for function, arguments in ((total, (P,)), (people, (P,)), (measure, (P,)), (scaled, (P, (1, 3))),
                                    (mirrored, (Q,)), (joined, (P, Q)), (part, (P, ((0,), (0,)))),
                                    (is_group, (P, ((0,), (0,)))), (is_even, (P, ((0,), (0,))))):
            self.unchanged(function, *arguments)


class TestGroups(Checks, unittest.TestCase):
    def test_groups(self):
        for group in reference.all_groups(P):
            self.flag(group != ((), ()), is_group, P, group)
            self.flag(group != ((), ()) and reference.is_even(P, group), is_even, P, group)

    def test_no_groups(self):
        wrong = [((), ()), ((3,), ()), ((), (3,)), ((0, 3), (0,)), ((0,), (2, 3)), ((-1,), (0,)), ((0,), (-1, 0)),
                 ((0, 0), (0,)), ((0,), (1, 1)), ((1, 0), (0, 1)), ((0, 2, 1), (0, 1, 2)), ((0,), (2, 1)),
                 ((True,), (1,)), ((1,), (True,)), ((False,), (0,)), ((0, True), (0, 1)), ((False, 1), (0, 1)),
                 ([0], [0]), ([0], (0,)), ((0,), [0]), [(0,), (0,)], ((0,), (0,), ()), ((0,),), (0, 0), ((0,), 0),
                 (0, (0,)), ("0", "0"), ((10 ** 40,), (0,)), (("0",), (0,)), ((0,), None), (b"\0", b"\0"),
                 ((0, None), (0,)), ((None, 0), (0,)), ((0,), ("a", 1)), (((0,),), ((0,),)), {(0,): (0,)},
                 (range(1), range(1))]
        for thing in wrong + strangers():
            self.flag(False, is_group, P, thing)
            self.flag(False, is_even, P, thing)
            self.refused(NotEven, {}, part, P, thing)

    def test_sides_are_bounded_apart(self):
        evening = Evening(((3, 1),), (ONE, ONE, ONE))
        for thing, right in ((((0,), (0, 1, 2)), True), (((0, 1), ()), False), (((), (1, 2)), True),
                             (((1,), ()), False), (((), (3,)), False)):
            self.flag(right, is_group, evening, thing)

    def test_part(self):
        evening = Evening(((2, 3), (1, 1), (1, 3)), ((1, 3), (2, 3), (1, 1)))
        self.assertEqual(vars(part(evening, ((0, 2), (2,)))), {"owed": ((2, 3), (1, 3)), "due": (ONE,)})
        self.assertEqual(vars(part(evening, ((1,), (0, 1)))), {"owed": (ONE,), "due": ((1, 3), (2, 3))})
        self.assertEqual(part(evening, ((0, 1, 2), (0, 1, 2))), evening)
        self.assertIs(type(part(evening, ((0,), (1,)))), Evening)

    def test_not_even(self):
        for group in reference.all_groups(P):
            if group != ((), ()) and reference.is_even(P, group):
                made = part(P, group)
                self.assertEqual(made.owed, tuple(P.owed[ower] for ower in group[0]))
                self.assertEqual(made.due, tuple(P.due[taker] for taker in group[1]))
            else:
                self.refused(NotEven, {}, part, P, group)

    def test_by_value(self):
        chance = random.Random(3)
        for _ in range(30):
            evening = reference.some_evening(chance, 3, 3, 4, Fraction(1, chance.randint(1, 9)))
            for group in reference.all_groups(evening)[1:]:
                self.flag(reference.is_even(evening, group), is_even, evening, group)


if __name__ == "__main__":
    unittest.main()
