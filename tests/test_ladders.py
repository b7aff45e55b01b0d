"""3.2: ladders."""

import random
import unittest

from quitsways.errors import NoNumber, TooMany
from quitsways.evenings import Evening
from quitsways.ladders import is_ladder, ladder
from quitsways.parts import most_parts
from tests import reference
from tests.strangers import Checks, strangers

ONE = (1, 1)
TWO = (2, 1)
P = Evening((TWO, ONE, ONE), (TWO, ONE, ONE))
Q = Evening((ONE, (3, 1)), (TWO, TWO))
NINE = Evening((ONE,) * 5, (ONE, ONE, ONE, TWO))
TEN = Evening((ONE,) * 5, (ONE,) * 5)
NOBODY = ((), ())


def less_one(group):
    """The groups with one person less, or the pair of two empty lots."""
    owers, takers = group
    return ([(owers[:k] + owers[k + 1:], takers) for k in range(len(owers))]
            + [(owers, takers[:k] + takers[k + 1:]) for k in range(len(takers))])


def is_right(evening, thing):
    """Whether a dict from all groups to integers is a ladder."""
    return thing[NOBODY] == 0 and all(
        thing[group] >= thing[lesser] + reference.is_even(evening, group)
        for group in reference.all_groups(evening) for lesser in less_one(group))


def everybody(evening):
    """The group of all people."""
    return (tuple(range(len(evening.owed))), tuple(range(len(evening.due))))


class TestLadders(Checks, unittest.TestCase):
    def test_ladder(self):
        for evening in [P, Q, NINE] + reference.small_evenings(8, 60, 7):
            made = ladder(evening)
            self.assertEqual(sorted(made), sorted(reference.all_groups(evening)))
            self.assertTrue(is_right(evening, made))
            most = most_parts(evening)
            self.assertEqual(made[everybody(evening)], most)
            self.plain(made)
            self.flag(True, is_ladder, evening, most, made)
            self.flag(True, is_ladder, evening, most + 1, made)
            self.flag(True, is_ladder, evening, 10 ** 39, made)
            self.flag(False, is_ladder, evening, most - 1, made)
            self.flag(False, is_ladder, evening, 0, made)
            self.flag(False, is_ladder, evening, -1, made)
            self.flag(False, is_ladder, evening, -(10 ** 39), made)

    def test_higher_ladders(self):
        made = {group: 0 if group == NOBODY else 10 ** 39 * (len(group[0]) + len(group[1]))
                for group in reference.all_groups(P)}
        self.flag(True, is_ladder, P, 6 * 10 ** 39, made)
        self.flag(False, is_ladder, P, 6 * 10 ** 39 - 1, made)
        made = {group: value + (group != NOBODY) for group, value in ladder(P).items()}
        self.flag(True, is_ladder, P, 4, made)
        self.flag(False, is_ladder, P, 3, made)

    def test_nobody_has_nought(self):
        for evening in (P, Q):
            for more in (1, 2, 10 ** 39):
                thing = {group: value + more for group, value in ladder(evening).items()}
                self.flag(False, is_ladder, evening, 10 ** 40 - 1, thing)
                thing[NOBODY] = 0
                self.flag(True, is_ladder, evening, 10 ** 40 - 1, thing)

    def test_the_order_of_the_keys_means_nothing(self):
        made = ladder(P)
        turned = {group: made[group] for group in sorted(made, reverse=True)}
        self.flag(True, is_ladder, P, 3, turned)
        self.flag(False, is_ladder, P, 2, turned)

    def test_each_number_counts(self):
        for evening in (P, Q, Evening((ONE, ONE), (TWO,))):
            made = ladder(evening)
            most = made[everybody(evening)]
            for group in made:
                for value in (made[group] - 1, made[group] + 1, made[group] + 2, 0, 1, -1, 10 ** 39):
                    thing = dict(made)
                    thing[group] = value
                    right = is_right(evening, thing) and value >= 0
                    self.flag(right and thing[everybody(evening)] <= most, is_ladder, evening, most, thing)
                    self.flag(right, is_ladder, evening, 10 ** 40 - 1, thing)

    def test_at_random(self):
        chance = random.Random(9)
        found = {True: 0, False: 0}
        for evening in reference.small_evenings(9, 60, 5):
            made = ladder(evening)
            for _ in range(20):
                thing = dict(made)
                for _ in range(chance.randint(1, 3)):
                    thing[chance.choice(list(thing))] += chance.randint(0, 1)
                right = is_right(evening, thing)
                found[right] += 1
                self.flag(right, is_ladder, evening, 9, thing)
                self.flag(right, is_ladder, evening, thing[everybody(evening)], thing)
                self.flag(False, is_ladder, evening, thing[everybody(evening)] - 1, thing)
        self.assertGreater(min(found.values()), 100)

    def test_keys(self):
        made = ladder(P)
        for group in made:
            thing = dict(made)
            del thing[group]
            self.flag(False, is_ladder, P, 3, thing)
            for other in (((9,), ()), ((0,), (3,)), ((3,), (0,)), ((-1,), ()), "", 0, None, ((1, 0), ()), ((0, 0), ()),
                          ((), (), ()), (), ((),), (((),), ()), (0, 0), b"", ((0,), 0), ((None,), (0,))):
                changed = dict(thing)
                changed[other] = 0
                self.flag(False, is_ladder, P, 3, changed)
                more = dict(made)
                more[other] = 0
                self.flag(False, is_ladder, P, 3, more)

    def test_flags_in_keys(self):
        made = ladder(P)
        for group in made:
            for number, flag in ((0, False), (1, True)):
                for side in (0, 1):
                    if number in group[side]:
                        lot = tuple(flag if each == number else each for each in group[side])
                        other = (lot, group[1]) if side == 0 else (group[0], lot)
                        thing = {key: value for key, value in made.items() if key != group}
                        thing[other] = made[group]
                        self.assertEqual(thing, made)
                        self.flag(False, is_ladder, P, 3, thing)

    def test_values(self):
        made = ladder(P)
        for group in made:
            for value in (True, False, None, "1", (1,), [1], b"1", (1, 1), -1, {}, Evening((ONE,), (ONE,))):
                thing = dict(made)
                thing[group] = value
                self.flag(False, is_ladder, P, 3, thing)

    def test_no_dicts(self):
        made = ladder(Q)
        for thing in [list(made.items()), tuple(made.items()), list(made), made.items(), made.keys(), iter(made)]:
            self.flag(False, is_ladder, Q, 3, thing)
        for thing in strangers():
            self.flag(False, is_ladder, Q, 3, thing)

    def test_no_number(self):
        for bound in strangers():
            if type(bound) is not int:
                for evening in (P, TEN, Evening((ONE,) * 100, (ONE,) * 100)):
                    self.refused(NoNumber, {}, is_ladder, evening, bound, ladder(P))
                    self.refused(NoNumber, {}, is_ladder, evening, bound, None)

    def test_nine_and_ten_people(self):
        self.assertEqual(len(ladder(NINE)), 512)
        self.flag(True, is_ladder, NINE, 4, ladder(NINE))
        self.flag(False, is_ladder, NINE, 3, ladder(NINE))
        for evening in (TEN, Evening(((9, 1),), (ONE,) * 9), Evening((ONE,) * 100, (ONE,) * 100)):
            self.refused(TooMany, {"most": 9}, ladder, evening)
            for bound in (0, -1, 5, 10 ** 39):
                for thing in (None, {}, ladder(NINE)):
                    self.refused(TooMany, {"most": 9}, is_ladder, evening, bound, thing)

    def test_of_another_evening(self):
        self.flag(False, is_ladder, P, 9, ladder(Q))
        self.flag(False, is_ladder, Q, 9, ladder(P))
        threes = Evening((ONE, ONE, ONE), (ONE, ONE, ONE))
        self.flag(True, is_ladder, Evening((ONE, ONE, (4, 1)), (TWO, TWO, TWO)), 3,
                  ladder(Evening((ONE, ONE, (4, 1)), (TWO, TWO, TWO))))
        self.flag(False, is_ladder, threes, 9, ladder(P))

    def test_asked_again(self):
        self.unchanged(ladder, P)
        self.unchanged(is_ladder, P, 3, ladder(P))
        self.unchanged(is_ladder, P, 2, ladder(P))
        self.unchanged(is_ladder, P, 2, {})


if __name__ == "__main__":
    unittest.main()
