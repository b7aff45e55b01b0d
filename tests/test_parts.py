"""3.1: partings and even groups."""

import random
import unittest
from unittest import mock

from quitsways import parts
from quitsways.errors import TooMany
from quitsways.evenings import Evening, joined
from quitsways.parts import even_groups, is_parting, least_groups, most_parts, parting, partings
from tests import reference
from tests.strangers import Checks, strangers

ONE = (1, 1)
TWO = (2, 1)
P = Evening((TWO, ONE, ONE), (TWO, ONE, ONE))
Q = Evening((ONE, (3, 1)), (TWO, TWO))
SEVENS = Evening((ONE,) * 7, (ONE,) * 7)
REFUSING = (most_parts, parting, partings, even_groups, least_groups)
FIVE_HUNDRED = [([1, 1, 2, 2, 1, 3, 3, 4, 4, 1, 1], [7, 14, 2]), ([2, 3, 3, 1, 3, 2, 2, 1, 2, 2, 3], [4, 15, 5])]
ABOVE = [([4, 4, 8, 7, 6, 2, 5, 1, 3, 4, 5], [17, 16, 16]), ([5, 8, 3, 7, 7, 3], [4, 1, 3, 9, 10, 3, 1, 2]),
         ([3, 3, 4, 1, 4, 2, 2], [1, 2, 1, 2, 6, 5, 2]), ([1] * 7, [1] * 7), ([1] * 11, [2] * 2 + [7])]
BELOW = [([2, 2, 3, 1, 2, 2, 3, 1, 3], [7, 1, 1, 1, 9]), ([6, 5, 3, 4, 2, 5, 2, 4, 2, 3], [17, 1, 12, 6])]


class TestPartings(Checks, unittest.TestCase):
    def test_judged(self):
        self.flag(True, is_parting, P, (((0,), (0,)), ((1,), (1,)), ((2,), (2,))))
        self.flag(True, is_parting, P, (((0, 1, 2), (0, 1, 2)),))
        self.flag(True, is_parting, P, (((0,), (1, 2)), ((1, 2), (0,))))
        self.flag(True, is_parting, Q, (((0, 1), (0, 1)),))
        wrong = [(((1,), (1,)), ((0,), (0,)), ((2,), (2,))), [((0,), (0,)), ((1,), (1,)), ((2,), (2,))],
                 (((0,), (0,)), ((1,), (1,))), (((0,), (0,)), ((0, 1, 2), (0, 1, 2))), (((0, 1, 2), (0, 1, 2)),) * 2,
                 (((0,), (0,)), ((1,), (1,)), ((1,), (1,)), ((2,), (2,))), (((0,), (0,)), ((1,), (1,)), ((2,), (1,))),
                 (((0,), (1,)), ((1,), (0,)), ((2,), (2,))), ((), ((0, 1, 2), (0, 1, 2))),
                 (((), ()), ((0, 1, 2), (0, 1, 2))), ((0, 1, 2), (0, 1, 2)), (((0, 1, 2), [0, 1, 2]),),
                 (((0, 1, 2), (0, 1, 2, 3)),), (((0,), (0,)), ((True,), (1,)), ((2,), (2,))),
                 (((False,), (0,)), ((1,), (1,)), ((2,), (2,))), (((0,), (0,)), ((2, 1), (1, 2))),
                 (((0,), (0,)), [(1,), (1,)], ((2,), (2,))), (((0,), (0,)), ((1,), (1,)), ((2,), (2,)), ((), ())),
                 (((0,), (0,)), ((1,), (2,)), ((1,), (1,)), ((2,), (1,))), (((0, 1), (0, 1)),),
                 (((1, 2), (0,)), ((0,), (1, 2)))]
        for thing in wrong + strangers():
            self.flag(False, is_parting, P, thing)

    def test_judged_against_reference(self):
        chance = random.Random(5)
        for evening in reference.small_evenings(5, 40, 7):
            known = reference.all_partings(evening)
            evens = reference.even_groups(evening)
            for thing in known:
                self.flag(True, is_parting, evening, thing)
            for _ in range(40):
                thing = tuple(sorted(chance.choice(evens) for _ in range(chance.randint(1, 3))))
                self.flag(thing in known, is_parting, evening, thing)

    def test_judges_any_number_of_people(self):
        wide = joined(Evening((ONE,) * 100, (ONE,) * 100), P)
        thing = tuple(((k,), (k,)) for k in range(103))
        self.flag(True, is_parting, wide, thing)
        self.flag(False, is_parting, wide, thing[1:])
        self.flag(False, is_parting, wide, thing[1:] + thing[:1])
        self.flag(True, is_parting, Evening((ONE,) * 8, (ONE,) * 7 + (ONE,)), thing[:8])
        self.flag(False, is_parting, Evening((ONE,) * 8, (ONE,) * 8), None)

    def test_against_reference(self):
        for evening in reference.small_evenings(6, 150, 8):
            known = reference.all_partings(evening)
            most = max(map(len, known))
            self.assertEqual(most_parts(evening), most)
            self.assertIn(parting(evening), [thing for thing in known if len(thing) == most])
            self.assertEqual(partings(evening), [thing for thing in known if len(thing) == most])
            self.plain((most_parts(evening), parting(evening), partings(evening)))

    def test_some(self):
        self.assertEqual((most_parts(P), most_parts(Q), most_parts(SEVENS)), (3, 1, 7))
        self.assertEqual(parting(Q), (((0, 1), (0, 1)),))
        self.assertEqual(partings(P), [(((0,), (0,)), ((1,), (1,)), ((2,), (2,))),
                                       (((0,), (0,)), ((1,), (2,)), ((2,), (1,)))])

    def test_fourteen_and_fifteen_people(self):
        for owed, due in (([13], [1] * 13), ([1] * 13, [13]), ([2] * 4 + [5], [1] * 8 + [5]), ([3] * 7, [3] * 7)):
            evening = reference.evening(owed, due)
            self.flag(True, is_parting, evening, parting(evening))
            self.assertEqual(len(parting(evening)), most_parts(evening))
        self.assertEqual(partings(reference.evening([13], [1] * 13)), [(((0,), tuple(range(13))),)])
        self.assertEqual(even_groups(reference.evening([13], [1] * 13)), [((0,), tuple(range(13)))])
        self.assertEqual(least_groups(reference.evening([13], [1] * 13)), [((0,), tuple(range(13)))])
        for owed, due in (([14], [1] * 14), ([1] * 14, [14]), ([1] * 8, [1] * 6 + [2]), ([1] * 100, [1] * 100)):
            for function in REFUSING:
                self.refused(TooMany, {"most": 14}, function, reference.evening(owed, due))

    def test_large_sums(self):
        big = 10 ** 40 - 1
        evening = Evening(((big, 1), (1, big), (1, big - 1)), ((1, big - 1), (big, 1), (1, big)))
        self.assertEqual(partings(evening), [(((0,), (1,)), ((1,), (2,)), ((2,), (0,)))])
        self.assertEqual(parting(evening), (((0,), (1,)), ((1,), (2,)), ((2,), (0,))))

    def test_five_hundred_partings(self):
        for owed, due in FIVE_HUNDRED:
            self.assertEqual(len(set(partings(reference.evening(owed, due)))), 500)
        for owed, due in BELOW:
            self.assertLess(len(partings(reference.evening(owed, due))), 500)
        for owed, due in ABOVE:
            evening = reference.evening(owed, due)
            self.refused(TooMany, {"most": 500}, partings, evening)
            self.flag(True, is_parting, evening, parting(evening))
            self.assertEqual(len(parting(evening)), most_parts(evening))

    def test_all_of_five_hundred(self):
        evening = reference.evening(*FIVE_HUNDRED[0])
        found = partings(evening)
        self.assertEqual(found, sorted(found))
        most = most_parts(evening)
        for thing in found:
            self.flag(True, is_parting, evening, thing)
            self.assertEqual(len(thing), most)

    def test_one_above_the_limit(self):
        evening = Evening((ONE,) * 4, (ONE,) * 4)
        for limit, fits in ((24, True), (23, False), (25, True)):
            with mock.patch.object(parts, "MOST_PARTINGS", limit):
                if fits:
                    self.assertEqual(len(partings(evening)), 24)
                else:
                    self.refused(TooMany, {"most": limit}, partings, evening)


class TestGroups(Checks, unittest.TestCase):
    def test_against_reference(self):
        for evening in reference.small_evenings(7, 150, 8):
            evens = reference.even_groups(evening)
            self.assertEqual(even_groups(evening), evens)
            leasts = [group for group in evens if not any(reference.holds(group, other) for other in evens)]
            self.assertEqual(least_groups(evening), leasts)
            self.plain((even_groups(evening), least_groups(evening)))

    def test_some(self):
        self.assertEqual(least_groups(Q), [((0, 1), (0, 1))])
        self.assertEqual(least_groups(P), [((0,), (0,)), ((0,), (1, 2)), ((1,), (1,)), ((1,), (2,)), ((1, 2), (0,)),
                                           ((2,), (1,)), ((2,), (2,))])
        self.assertEqual(len(even_groups(P)), 13)

    def test_two_thousand_groups(self):
        # The even groups go in twos, one having all whom the other one lacks, with all people left over alone:
        # so there are never just 2000 of them. 1951 and 2001 are as near as could be found.
        evening = reference.evening([1] * 6 + [4], [1, 1, 2, 1, 1, 2, 2])
        found = even_groups(evening)
        self.assertEqual((len(set(found)), found), (1951, sorted(found)))
        for owed, due in (([1] * 10, [3, 3, 3, 1]), ([1] * 7, [1] * 7), ([1, 2, 1, 1, 1, 2, 2, 1], [2, 2, 1, 1, 2, 3])):
            self.refused(TooMany, {"most": 2000}, even_groups, reference.evening(owed, due))

    def test_few_least_groups_of_many_even_ones(self):
        self.refused(TooMany, {"most": 2000}, even_groups, SEVENS)
        self.assertEqual(least_groups(SEVENS), [((ower,), (taker,)) for ower in range(7) for taker in range(7)])

    def test_many_least_groups(self):
        # No evening of 14 people with more least groups could be found.
        found = least_groups(reference.evening([1] * 12, [6, 6]))
        self.assertEqual((len(set(found)), found), (1848, sorted(found)))

    def test_one_above_the_limit(self):
        for function, evening, many in ((even_groups, P, 13), (least_groups, P, 7), (least_groups, SEVENS, 49)):
            for limit in (many, many + 1):
                with mock.patch.object(parts, "MOST_GROUPS", limit):
                    self.assertEqual(len(function(evening)), many)
            with mock.patch.object(parts, "MOST_GROUPS", many - 1):
                self.refused(TooMany, {"most": many - 1}, function, evening)

    def test_asked_again(self):
        for function in REFUSING:
            self.unchanged(function, P)
            self.unchanged(function, Q)
        self.unchanged(is_parting, P, (((0,), (0,)), ((1,), (1,)), ((2,), (2,))))
        self.unchanged(is_parting, P, [((0,), (0,)), ((1,), (1,)), ((2,), (2,))])


if __name__ == "__main__":
    unittest.main()
