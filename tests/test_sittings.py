"""10.1: a way under way."""

import copy
import random
import unittest
from fractions import Fraction

from quitsways.errors import NoNumber, NoPerson, NothingDone, Quits, TooMany
from quitsways.evenings import Evening, joined
from quitsways.numbers import fewest, greatest
from quitsways.sittings import Sitting
from quitsways.ways import rests
from tests import reference
from tests.strangers import Checks, strangers

NOUGHT = (0, 1)
ONE = (1, 1)
TWO = (2, 1)
P = Evening((TWO, ONE, ONE), (TWO, ONE, ONE))
Q = Evening((ONE, (3, 1)), (TWO, TWO))
SINGLE = Evening((ONE,), (ONE,))
WIDE = Evening((ONE,) * 100, (ONE,) * 100)
NO_PEOPLE = [-1, 3, 4, 10 ** 39, -(10 ** 39), True, False, None, "0", b"0", (0,), [0], (0, 0), {}, SINGLE, Sitting(SINGLE)]


def told(sitting):
    """All that a sitting tells of itself."""
    return (sitting.so_far(), sitting.left(), sitting.is_over(), sitting.can_pay(), sitting.depth())


def paid_along(evening, row):
    """A sitting behind a row."""
    sitting = Sitting(evening)
    for ower, taker in row:
        sitting.pay(ower, taker)
    return sitting


class TestPaying(Checks, unittest.TestCase):
    def behind(self, sitting, evening, row):
        """The sitting tells what is so behind a row."""
        row = tuple(row)
        owing, awaiting, _ = reference.play(evening, row)
        left = (tuple(map(reference.amount, owing)), tuple(map(reference.amount, awaiting)))
        pairs = [(ower, taker) for ower, rest in enumerate(owing) for taker, other in enumerate(awaiting) if rest and other]
        self.assertEqual(told(sitting), (row, left, not any(owing), pairs, len(row)))
        self.assertEqual((type(sitting.so_far()), type(sitting.left()), type(sitting.can_pay())), (tuple, tuple, list))
        self.plain((sitting.so_far(), sitting.left(), sitting.can_pay(), sitting.depth()))
        self.assertIs(type(sitting.is_over()), bool)
        self.assertEqual(sitting.left(), rests(evening, row))

    def test_some(self):
        sitting = Sitting(Q)
        self.behind(sitting, Q, ())
        self.assertEqual(sitting.pay(0, 0), ONE)
        self.behind(sitting, Q, ((0, 0),))
        self.assertEqual(sitting.left(), ((NOUGHT, (3, 1)), (ONE, TWO)))
        self.assertEqual(sitting.pay(1, 1), TWO)
        self.assertEqual(sitting.can_pay(), [(1, 0)])
        self.assertEqual(sitting.pay(1, 0), ONE)
        self.behind(sitting, Q, ((0, 0), (1, 1), (1, 0)))
        self.assertIs(sitting.is_over(), True)
        self.assertEqual(sitting.can_pay(), [])
        self.assertEqual(sitting.so_far(), ((0, 0), (1, 1), (1, 0)))

    def test_against_reference(self):
        chance = random.Random(90)
        for evening in [P, Q] + reference.small_evenings(90, 80, 9):
            sitting = Sitting(evening)
            row = []
            self.behind(sitting, evening, row)
            while not sitting.is_over():
                pair = chance.choice(sitting.can_pay())
                row.append(pair)
                amount = sitting.pay(*pair)
                self.assertEqual(amount, reference.amount(reference.play(evening, row)[2][-1]))
                self.plain(amount)
                self.behind(sitting, evening, row)

    def test_errors_in_order(self):
        for row in ((), ((0, 0),), ((0, 0), (1, 1)), ((0, 0), (1, 1), (1, 0))):
            sitting = paid_along(Q, row)
            before = told(sitting)
            for wrong in NO_PEOPLE + strangers() + [2]:
                if type(wrong) is not int or not 0 <= wrong < 2:
                    self.refused(NoPerson, {}, sitting.pay, wrong, 0)
                    self.refused(NoPerson, {}, sitting.pay, wrong, None)
                    self.refused(NoPerson, {}, sitting.pay, 0, wrong)
                    self.refused(NoPerson, {}, sitting.pay, 1, wrong)
            for pair in ((0, 0), (0, 1), (1, 0), (1, 1)):
                if pair not in sitting.can_pay():
                    self.refused(Quits, {}, sitting.pay, *pair)
            self.assertEqual(told(sitting), before)
        unlike = Sitting(Evening((TWO,), (ONE, ONE)))
        self.refused(NoPerson, {}, unlike.pay, 1, 0)
        self.assertEqual(unlike.pay(0, 1), ONE)
        self.refused(Quits, {}, unlike.pay, 0, 1)
        self.refused(NoPerson, {}, unlike.pay, 0, 2)

    def test_results_are_new(self):
        sitting = paid_along(P, ((0, 1),))
        for method in (sitting.can_pay, sitting.so_far, sitting.left, sitting.is_over, sitting.depth, sitting.ends):
            self.unchanged(method)
        for number in range(6):
            self.unchanged(sitting.toward, number)
        sitting.can_pay().clear()
        self.assertEqual(len(sitting.can_pay()), 6)

    def test_the_evening_stays(self):
        before = copy.deepcopy(vars(P))
        sitting = Sitting(P)
        while not sitting.is_over():
            sitting.pay(*sitting.can_pay()[-1])
        self.assertEqual(vars(P), before)
        self.behind(Sitting(P), P, ())

    def test_no_result(self):
        sitting = Sitting(Q)
        sitting.pay(0, 0)
        self.assertIs(sitting.back(), None)

    def test_many_people(self):
        for evening in (WIDE, joined(WIDE, Q)):
            row = [(number, len(evening.due) - 1 - number) for number in range(3)]
            self.behind(paid_along(evening, row), evening, row)
        chance = random.Random(91)
        evening = reference.some_evening(chance, 60, 60, 9)
        way = reference.drawn_way(chance, evening)
        sitting = paid_along(evening, way)
        self.behind(sitting, evening, way)
        for place in range(len(way), 0, -1):
            sitting.back()
        self.behind(sitting, evening, ())

    def test_equal_to_nothing_else(self):
        sitting = Sitting(Q)
        for thing in strangers() + [Q, sitting.so_far(), sitting.left()]:
            self.assertFalse(sitting == thing)
            self.assertTrue(sitting != thing)


class TestEnds(Checks, unittest.TestCase):
    def goes_on(self, sitting, evening, row):
        """The ends, and the pairs toward all numbers, behind a row of a sitting."""
        owing, awaiting, _ = reference.play(evening, row)
        numbers = {len(row) + number for number in self.lengths(owing, awaiting)}
        self.assertEqual(sitting.ends(), (min(numbers), max(numbers)))
        self.assertEqual(type(sitting.ends()), tuple)
        self.plain(sitting.ends())
        for number in range(-1, max(numbers) + 2):
            pair = sitting.toward(number)
            if number not in numbers or not any(owing):
                self.assertIs(pair, None)
                continue
            self.plain(pair)
            self.assertIn(pair, sitting.can_pay())
            left, due, _ = reference.play(evening, tuple(row) + (pair,))
            self.assertIn(number - len(row) - 1, self.lengths(left, due))
        self.assertEqual(sitting.so_far(), tuple(row))

    def lengths(self, owing, awaiting):
        """The numbers of payments of all ways from these rests on."""
        return reference.lengths(tuple(sorted(rest for rest in owing if rest)), tuple(sorted(rest for rest in awaiting if rest)))

    def test_some(self):
        sitting = Sitting(P)
        self.assertEqual(sitting.ends(), (3, 4))
        self.assertIn(sitting.toward(3), [(0, 0), (1, 1), (1, 2), (2, 1), (2, 2)])
        self.assertIn(sitting.toward(4), [(0, 1), (0, 2), (1, 0), (2, 0), (1, 1), (1, 2), (2, 1), (2, 2)])
        sitting.pay(0, 1)
        self.assertEqual(sitting.ends(), (4, 4))
        self.assertIs(sitting.toward(3), None)
        done = paid_along(SINGLE, ((0, 0),))
        self.assertEqual(done.ends(), (1, 1))
        self.assertEqual([done.toward(number) for number in range(-1, 4)], [None] * 5)

    def test_against_all_ways_on(self):
        chance = random.Random(92)
        for evening in [P, Q, SINGLE] + reference.small_evenings(92, 80, 7):
            for _ in range(2):
                way = reference.drawn_way(chance, evening)
                sitting = Sitting(evening)
                for place in range(len(way) + 1):
                    self.goes_on(sitting, evening, way[:place])
                    if place < len(way):
                        sitting.pay(*way[place])

    def test_all_numbers_are_reached(self):
        chance = random.Random(93)
        for owers in range(1, 14):
            evening = reference.some_evening(chance, owers, 14 - owers, 3, Fraction(2, 3))
            low, high = fewest(evening), greatest(evening)
            for number in sorted({low, (low + high) // 2, high}):
                sitting = Sitting(evening)
                self.assertEqual(sitting.ends(), (low, high))
                while not sitting.is_over():
                    low_now, high_now = sitting.ends()
                    self.assertTrue(low_now <= number <= high_now)
                    sitting.pay(*sitting.toward(number))
                self.assertEqual(len(sitting.so_far()), number)
                self.assertIs(sitting.toward(number), None)
                self.assertEqual(sitting.ends(), (number, number))

    def test_no_number(self):
        done = paid_along(SINGLE, ((0, 0),))
        for thing in strangers():
            if type(thing) is not int:
                for sitting in (Sitting(P), Sitting(WIDE), done):
                    self.refused(NoNumber, {}, sitting.toward, thing)
        for number in (10 ** 39, -(10 ** 39), 0, -1, 5, 2):
            self.assertIs(Sitting(P).toward(number), None)
            self.assertIs(done.toward(number), None)

    def test_fourteen_and_fifteen_people_left(self):
        seven = Sitting(Evening((ONE,) * 7, (ONE,) * 7))
        self.assertEqual(seven.ends(), (7, 7))
        sitting = Sitting(reference.evening([5, 6, 7, 8, 9, 10, 11], [4, 5, 6, 7, 8, 8, 9, 9]))
        self.too_many(sitting)
        for pair, many in (((0, 0), 14), ((0, 1), 13), ((6, 7), 14)):
            sitting.pay(*pair)
            left = [[rest for rest in side if rest[0]] for side in sitting.left()]
            self.assertEqual(len(left[0] + left[1]), many)
            rest_of_evening = Evening(tuple(left[0]), tuple(left[1]))
            low, high = fewest(rest_of_evening) + 1, greatest(rest_of_evening) + 1
            self.assertEqual(sitting.ends(), (low, high))
            self.assertIs(sitting.toward(low - 1), None)
            self.assertIn(sitting.toward(low), sitting.can_pay())
            self.assertIn(sitting.toward(high), sitting.can_pay())
            self.assertIs(sitting.toward(high + 1), None)
            sitting.back()
            self.too_many(sitting)

    def test_few_left_of_many(self):
        sitting = paid_along(WIDE, tuple((k, k) for k in range(92)))
        self.too_many(sitting)
        sitting.pay(92, 99)
        self.assertEqual(sitting.ends(), (100, 100))
        self.assertIn(sitting.toward(100), sitting.can_pay())
        self.assertIs(sitting.toward(7), None)
        sitting.back()
        self.too_many(sitting)

    def too_many(self, sitting):
        before = told(sitting)
        self.refused(TooMany, {"most": 14}, sitting.ends)
        for number in (0, -1, 14, 100, 10 ** 39):
            self.refused(TooMany, {"most": 14}, sitting.toward, number)
        self.refused(NoNumber, {}, sitting.toward, None)
        self.assertEqual(told(sitting), before)


class TestBack(Checks, unittest.TestCase):
    def test_back(self):
        chance = random.Random(94)
        for evening in [P, Q, SINGLE] + reference.small_evenings(94, 40, 8):
            way = reference.drawn_way(chance, evening)
            sitting = Sitting(evening)
            known = [told(sitting)]
            for pair in way:
                sitting.pay(*pair)
                known.append(told(sitting))
            for before in reversed(known):
                self.assertEqual(told(sitting), before)
                self.assertEqual(sitting.depth(), len(sitting.so_far()))
                if sitting.depth():
                    sitting.back()
            self.refused(NothingDone, {}, sitting.back)
            self.assertEqual(told(sitting), known[0])

    def test_back_and_on(self):
        sitting = paid_along(P, ((0, 0), (1, 1)))
        sitting.back()
        sitting.back()
        sitting.pay(0, 1)
        sitting.pay(2, 0)
        sitting.back()
        self.assertEqual(told(sitting), told(paid_along(P, ((0, 1),))))
        sitting.back()
        self.refused(NothingDone, {}, sitting.back)
        self.refused(NothingDone, {}, Sitting(WIDE).back)

    def test_what_is_refused_is_not_taken_back(self):
        sitting = paid_along(Q, ((0, 0),))
        self.refused(Quits, {}, sitting.pay, 0, 1)
        self.refused(NoPerson, {}, sitting.pay, 0, 9)
        self.assertEqual(sitting.depth(), 1)
        sitting.back()
        self.assertEqual(told(sitting), told(Sitting(Q)))

    def test_copies(self):
        sitting = paid_along(P, ((0, 1), (1, 0)))
        other = sitting.copy()
        self.assertIs(type(other), Sitting)
        self.assertIsNot(other, sitting)
        self.assertEqual(told(other), told(sitting))
        other.pay(0, 0)
        self.assertEqual(told(sitting), told(paid_along(P, ((0, 1), (1, 0)))))
        self.assertEqual(other.depth(), 3)
        sitting.back()
        sitting.back()
        self.refused(NothingDone, {}, sitting.back)
        for depth in (2, 1, 0):
            other.back()
            self.assertEqual(other.depth(), depth)
        self.refused(NothingDone, {}, other.back)
        other.pay(2, 2)
        self.assertEqual(told(sitting), told(Sitting(P)))
        third = other.copy().copy()
        third.back()
        self.assertEqual(told(other), told(paid_along(P, ((2, 2),))))
        self.assertEqual(told(third), told(Sitting(P)))


class TestTrying(Checks, unittest.TestCase):
    def test_result(self):
        sitting = paid_along(P, ((0, 1),))
        before = told(sitting)
        seen = []

        def action(tried):
            seen.append(tried)
            tried.pay(1, 0)
            tried.pay(0, 0)
            return told(tried)
        self.assertEqual(sitting.trying(action), told(paid_along(P, ((0, 1), (1, 0), (0, 0)))))
        self.assertIs(seen[0], sitting)
        self.assertEqual(told(sitting), before)
        for thing in (None, 0, [], "a", sitting):
            self.assertIs(sitting.trying(lambda tried: thing), thing)
        self.assertIs(sitting.trying(lambda tried: tried.pay(2, 2) and None), None)
        self.assertEqual(told(sitting), before)

    def test_what_can_be_taken_back(self):
        sitting = paid_along(P, ((0, 1), (1, 0)))
        before = told(sitting)

        def all_back(tried):
            tried.back()
            tried.back()
            self.refused(NothingDone, {}, tried.back)
            return tried.depth()
        self.assertEqual(sitting.trying(all_back), 0)
        self.assertEqual(told(sitting), before)

        def other_way(tried):
            tried.back()
            tried.back()
            tried.pay(2, 2)
            tried.pay(1, 1)
            tried.pay(0, 0)
            return tried.is_over()
        self.assertIs(sitting.trying(other_way), True)
        self.assertEqual(told(sitting), before)
        sitting.back()
        self.assertEqual(told(sitting), told(paid_along(P, ((0, 1),))))
        sitting.back()
        self.refused(NothingDone, {}, sitting.back)

    def test_errors_go_on(self):
        for error in (KeyError("x"), ValueError(), NoPerson(), Quits(), NothingDone(), StopIteration(), IndexError(),
                      ZeroDivisionError(), KeyboardInterrupt(), RuntimeError("a"), AssertionError()):
            for ahead in ((), ((0, 1),), ((0, 1), (1, 0))):
                sitting = paid_along(P, ahead)

                def action(tried):
                    while tried.depth():
                        tried.back()
                    tried.pay(2, 2)
                    raise error
                with self.assertRaises(type(error)) as caught:
                    sitting.trying(action)
                self.assertIs(caught.exception, error)
                self.assertEqual(told(sitting), told(paid_along(P, ahead)))
        sitting = paid_along(Q, ((0, 0),))
        self.refused(Quits, {}, sitting.trying, lambda tried: tried.pay(0, 1))
        self.refused(NothingDone, {}, sitting.trying, lambda tried: [tried.back(), tried.back()])
        self.assertEqual(told(sitting), told(paid_along(Q, ((0, 0),))))

    def test_within_another(self):
        sitting = paid_along(P, ((0, 1),))
        before = told(sitting)

        def inner(tried):
            tried.back()
            tried.pay(2, 2)
            tried.pay(0, 0)
            return told(tried)

        def failing(tried):
            tried.back()
            tried.back()
            raise KeyError("inner")

        def outer(tried):
            tried.pay(1, 0)
            middle = told(tried)
            found = tried.trying(inner)
            self.assertEqual(told(tried), middle)
            self.assertRaises(KeyError, tried.trying, failing)
            self.assertEqual(told(tried), middle)
            tried.back()
            self.assertEqual(told(tried), before)
            tried.back()
            self.assertEqual(tried.trying(lambda again: again.pay(0, 0)), TWO)
            return found
        self.assertEqual(sitting.trying(outer), told(paid_along(P, ((0, 1), (2, 2), (0, 0)))))
        self.assertEqual(told(sitting), before)

    def test_copies_of_a_trial_stay(self):
        sitting = paid_along(P, ((0, 1),))

        def action(tried):
            tried.pay(1, 0)
            return tried.copy()
        other = sitting.trying(action)
        self.assertEqual(told(other), told(paid_along(P, ((0, 1), (1, 0)))))
        self.assertEqual(told(sitting), told(paid_along(P, ((0, 1),))))
        other.back()
        other.back()
        self.refused(NothingDone, {}, other.back)

    def test_goes_on_behind(self):
        sitting = Sitting(Q)
        self.assertEqual(sitting.trying(lambda tried: tried.pay(1, 0)), TWO)
        self.assertEqual(sitting.pay(0, 0), ONE)
        self.assertEqual(sitting.trying(lambda tried: tried.ends()), (3, 3))
        sitting.pay(1, 1)
        sitting.pay(1, 0)
        self.assertEqual(sitting.trying(lambda tried: tried.can_pay()), [])
        self.assertIs(sitting.is_over(), True)


if __name__ == "__main__":
    unittest.main()
