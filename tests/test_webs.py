"""8.1, 8.2 and 8.3: webs of ties."""

import random
import unittest
from fractions import Fraction

from quitsways.drawings import drawing
from quitsways.errors import NotSettled, NoWeb, TooMany
from quitsways.evenings import Evening, joined, people
from quitsways.numbers import fewest, greatest
from quitsways.settlements import is_settlement
from quitsways.webs import (can_settle, cut, is_cut, is_safe, is_stuck, is_web, missing, safer, settle, stuck,
                            web_numbers)
from tests import reference
from tests.strangers import Checks, strangers

ONE = (1, 1)
TWO = (2, 1)
P = Evening((TWO, ONE, ONE), (TWO, ONE, ONE))
Q = Evening((ONE, (3, 1)), (TWO, TWO))
SINGLE = Evening((ONE,), (ONE,))
WIDE = Evening((ONE,) * 100, (ONE,) * 100)
WEB = ((0, 0), (1, 0), (1, 1))
ALL = ((0, 0), (0, 1), (1, 0), (1, 1))
NO_WEBS = [
    [], list(WEB), [[0, 0]], ([0, 0],), ((0, 0), [1, 0]), WEB[::-1], ((1, 0), (0, 0)), ((0, 1), (0, 0)), ((1, 1), (1, 0)),
    ((0, 0), (0, 0)), WEB + WEB[-1:], WEB[:1] + WEB, ((0, 2),), ((2, 0),), ((0, 0), (2, 0)), ((-1, 0), (0, 0)), ((0, -1),),
    ((False, 0),), ((0, False),), ((0, 0), (True, 0)), ((0, 0), (1, True)), ((0,),), ((0, 0, 0),), ((),), (0, 0), ((0, 0), ()),
    ((0, 0), None), (None,), ((0, None),), ((None, 0),), (("0", "0"),), "", "00", ("00",), (b"00",), {(0, 0): 1}, 0, None,
    {(0, 0): 1}.keys(), iter(WEB), ((0, 0), ((0,), 1)), (WEB,), ((10 ** 39, 0),), ((0, 10 ** 39),), (({}, 0),),
]


def everything(evening):
    """The web of all pairs."""
    return tuple((ower, taker) for ower in range(len(evening.owed)) for taker in range(len(evening.due)))


def some_web(chance, evening):
    """A web of drawn ties, perhaps with those of a way, perhaps without some of them."""
    pairs = everything(evening)
    ties = set(chance.sample(pairs, chance.randint(0, len(pairs))))
    if chance.random() < 0.7:
        ties |= set(reference.drawn_way(chance, evening))
    if ties and chance.random() < 0.2:
        ties.remove(chance.choice(sorted(ties)))
    return tuple(sorted(ties))


def small_webs(seed, many, most):
    """So many small evenings, each with some webs."""
    chance = random.Random(seed)
    for evening in reference.small_evenings(seed, many, most):
        for _ in range(4):
            yield evening, some_web(chance, evening)
        yield evening, everything(evening)


def is_over(evening, web, lot):
    """Whether these owers owe more than all are due to whom they have ties."""
    owing, awaiting = reference.start(evening)
    takers = {taker for ower, taker in web if ower in lot}
    return sum(owing[ower] for ower in lot) > sum(awaiting[taker] for taker in takers)


def rows_along(evening, web):
    """All rows along a web, with the rests behind each."""
    found = []

    def go_on(row):
        owing, awaiting, _ = reference.play(evening, row)
        found.append((row, owing, awaiting))
        for ower, taker in web:
            if owing[ower] > 0 and awaiting[taker] > 0:
                go_on(row + ((ower, taker),))

    go_on(())
    return found


def anybody_stuck(web, owing, awaiting):
    """Whether somebody is stuck with these rests."""
    return any(rest > 0 and not any(awaiting[taker] > 0 for other, taker in web if other == ower)
               for ower, rest in enumerate(owing))


def stuck_behind(evening, web, row):
    """Whether these pairs are a row along a web behind which somebody is stuck."""
    played = reference.play(evening, row)
    return set(row) <= set(web) and played is not None and anybody_stuck(web, *played[:2])


def hanging(evening, web):
    """The pairs whose people hang together by ties, by going from each to all others."""
    found = []
    for ower in range(len(evening.owed)):
        owers, takers = {ower}, set()
        while True:
            more = {taker for other, taker in web if other in owers}
            others = {other for other, taker in web if taker in more} | owers
            if (others, more) == (owers, takers):
                break
            owers, takers = others, more
        found += [(ower, taker) for taker in sorted(takers)]
    return found


class TestWebs(Checks, unittest.TestCase):
    def test_judged(self):
        for web in ((), WEB, ALL, ((0, 0),), ((1, 1),), ((0, 1), (1, 0))):
            self.flag(True, is_web, Q, web)
        for thing in NO_WEBS:
            self.flag(False, is_web, Q, thing)
        for thing in strangers():
            self.flag(thing == (), is_web, Q, thing)
        wide = Evening((ONE, ONE), (ONE, (1, 2), (1, 2)))
        self.flag(True, is_web, wide, ((0, 2), (1, 0)))
        self.flag(False, is_web, wide, ((0, 2), (2, 0)))
        self.flag(True, is_web, WIDE, everything(WIDE))
        self.flag(False, is_web, WIDE, everything(WIDE)[1:] + ((0, 0),))

    def test_no_web(self):
        for thing in NO_WEBS + [thing for thing in strangers() if thing != ()]:
            for function in (can_settle, settle, cut, stuck, is_safe, missing, safer, web_numbers):
                self.refused(NoWeb, {}, function, Q, thing)
            for judged in ((), (0,), None, ((1, 0),)):
                self.refused(NoWeb, {}, is_cut, Q, thing, judged)
                self.refused(NoWeb, {}, is_stuck, Q, thing, judged)

    def settles(self, evening, web):
        """Just one of settle and cut is there, and fits."""
        found = settle(evening, web)
        lot = cut(evening, web)
        if found is not None:
            self.assertIs(lot, None)
            self.flag(True, can_settle, evening, web)
            self.plain(found)
            self.flag(True, is_settlement, evening, found)
            used = {(ower, taker) for ower, row in enumerate(found) for taker, each in enumerate(row) if each[0] > 0}
            self.assertLessEqual(used, set(web))
            return True
        self.flag(False, can_settle, evening, web)
        self.assertIs(type(lot), tuple)
        self.plain(lot)
        self.assertEqual(lot, tuple(sorted(set(lot))))
        self.assertTrue(lot and 0 <= lot[0] and lot[-1] < len(evening.owed))
        self.assertTrue(is_over(evening, web, lot))
        self.flag(True, is_cut, evening, web, lot)
        return False

    def test_some(self):
        self.assertEqual(settle(Q, WEB), ((ONE, (0, 1)), (ONE, TWO)))
        self.assertEqual(settle(P, ((0, 0), (1, 1), (2, 2))), ((TWO, (0, 1), (0, 1)), ((0, 1), ONE, (0, 1)),
                                                             ((0, 1), (0, 1), ONE)))
        self.assertEqual(cut(Q, ((0, 0), (0, 1))), (1,))
        self.assertEqual(cut(Q, ((0, 0), (1, 1))), (1,))
        self.assertEqual(cut(Q, ((1, 0), (1, 1))), (0,))
        self.assertEqual(cut(SINGLE, ()), (0,))
        self.assertEqual(settle(SINGLE, ((0, 0),)), ((ONE,),))

    def test_against_all_lots(self):
        found = {True: 0, False: 0}
        for evening, web in small_webs(60, 150, 8):
            lots = reference.lots(len(evening.owed))
            cuts = [lot for lot in lots if is_over(evening, web, lot)]
            found[not cuts] += 1
            self.assertEqual(self.settles(evening, web), not cuts)
            for lot in lots:
                self.flag(lot in cuts, is_cut, evening, web, lot)
        self.assertGreater(min(found.values()), 100)

    def test_rings_and_rests(self):
        # What is paid first must be given up again, more than once along the way.
        evening = reference.evening([1] * 8, [1] * 8)
        chain = tuple(sorted([(k, k) for k in range(7)] + [(k + 1, k) for k in range(7)] + [(0, 7)]))
        self.assertTrue(self.settles(evening, chain))
        self.assertFalse(self.settles(evening, chain[:1] + chain[2:]))
        chance = random.Random(61)
        for _ in range(150):
            owers = chance.randint(2, 12)
            evening = reference.some_evening(chance, owers, chance.randint(2, 12), chance.choice([1, 2, 9, 10 ** 15]))
            way = reference.drawn_way(chance, evening)
            ties = set(way) | set(chance.sample(everything(evening), chance.randint(0, 9)))
            self.assertTrue(self.settles(evening, tuple(sorted(ties))))
            lesser = ties - {chance.choice(sorted(ties))}
            self.settles(evening, tuple(sorted(lesser)))

    def test_a_hundred_people(self):
        chance = random.Random(62)
        for owers, takers, most in ((50, 50, 9), (100, 100, 1000), (30, 70, 10 ** 15), (99, 1, 5), (1, 99, 5)):
            evening = reference.some_evening(chance, owers, takers, most, Fraction(chance.randint(1, 9), 11))
            ties = drawing(evening, reference.drawn_way(chance, evening))
            self.assertTrue(self.settles(evening, ties))
            for place in sorted({0, len(ties) - 1, chance.randrange(len(ties)), chance.randrange(len(ties))}):
                self.assertFalse(self.settles(evening, ties[:place] + ties[place + 1:]))
        self.assertTrue(self.settles(WIDE, everything(WIDE)))
        shifted = tuple(sorted((k, (k + 1) % 100) for k in range(100)))
        self.assertTrue(self.settles(WIDE, shifted))
        self.assertFalse(self.settles(WIDE, shifted[1:]))
        self.assertFalse(self.settles(WIDE, tuple((ower, taker) for ower in range(100) for taker in range(99))))

    def test_beyond_the_sizes(self):
        evening = joined(joined(WIDE, WIDE), Q)
        ties = tuple((k, k) for k in range(200)) + tuple((200 + i, 200 + j) for i, j in WEB)
        self.assertTrue(self.settles(evening, ties))
        self.assertFalse(self.settles(evening, ties[:-1]))
        self.assertEqual(missing(evening, ties), ((200, 201),))
        self.assertTrue(stuck_behind(evening, ties, stuck(evening, ties)))

    def test_cuts(self):
        for web in ((), ((0, 0),), WEB, ALL):
            self.flag(False, is_cut, Q, web, ())
        self.flag(True, is_cut, Q, (), (0,))
        self.flag(True, is_cut, Q, (), (0, 1))
        self.flag(True, is_cut, Q, ((1, 0),), (1,))
        self.flag(False, is_cut, Q, ((0, 0), (1, 0), (1, 1)), (1,))
        self.flag(False, is_cut, Q, ALL, (0, 1))
        self.flag(True, is_cut, Q, ((0, 0), (1, 0)), (0, 1))
        self.flag(False, is_cut, P, ((0, 0), (1, 1)), (0,))
        for thing in ([1], (True,), (2,), (-1,), (1, 0), (1, 1), ("1",), (None,), 1, None, "1", {1: 1}, ((1,), ()), ((1,),),
                      (0, 1, 2), (0, True), (10 ** 39,), (1, None), iter((1,))):
            self.flag(False, is_cut, Q, (), thing)
        for thing in strangers():
            self.flag(thing == (0,), is_cut, Q, (), thing)
            self.flag(False, is_cut, Q, ALL, thing)

    def test_asked_again(self):
        for function in (is_web, can_settle, settle, cut, stuck, is_safe, missing, safer, web_numbers):
            self.unchanged(function, Q, WEB)
        for function in (can_settle, settle, cut, missing, safer, web_numbers):
            self.unchanged(function, Q, ((0, 0), (1, 1)))
        self.unchanged(is_stuck, Q, WEB, ((1, 0),))
        self.unchanged(is_cut, Q, (), (0, 1))


class TestStuck(Checks, unittest.TestCase):
    def stuck(self, evening, web):
        """The row that stuck tells fits what is missing; whether there is one."""
        row = stuck(evening, web)
        self.flag(row is None, is_safe, evening, web)
        self.assertEqual(row is None, missing(evening, web) == ())
        if row is None:
            return False
        self.assertIs(type(row), tuple)
        self.plain(row)
        self.assertTrue(stuck_behind(evening, web, row), (vars(evening), web, row))
        self.flag(True, is_stuck, evening, web, row)
        return True

    def test_some(self):
        self.assertEqual(missing(Q, WEB), ((0, 1),))
        self.assertTrue(self.stuck(Q, WEB))
        self.assertFalse(self.stuck(Q, ALL))
        self.assertFalse(self.stuck(P, ((0, 0), (1, 1), (2, 2))))
        self.assertFalse(self.stuck(P, ((0, 1), (0, 2), (1, 0), (2, 0))))
        self.assertTrue(self.stuck(P, ((0, 0), (1, 0), (1, 1), (2, 2))))
        self.assertTrue(self.stuck(P, ((0, 1), (0, 2), (1, 0), (2, 0), (2, 2))))
        self.assertFalse(self.stuck(SINGLE, ((0, 0),)))

    def test_a_tie_that_no_settlement_uses(self):
        evening = reference.evening([1, 1], [1, 1])
        self.assertTrue(self.stuck(evening, ((0, 0), (0, 1), (1, 1))))
        evening = reference.evening([2, 3, 4], [4, 3, 2])
        for tie in ((0, 1), (1, 0), (2, 1), (1, 2), (0, 0), (2, 2)):
            self.assertTrue(self.stuck(evening, tuple(sorted(((0, 2), (1, 1), (2, 0), tie)))))

    def test_against_all_rows(self):
        found = {True: 0, False: 0}
        chance = random.Random(63)
        for evening, web in small_webs(64, 130, 6):
            if not can_settle(evening, web):
                continue
            rows = rows_along(evening, web)
            if len(rows) > 4000:
                continue
            known = {row for row, owing, awaiting in rows if anybody_stuck(web, owing, awaiting)}
            found[bool(known)] += 1
            self.assertEqual(self.stuck(evening, web), bool(known))
            for row, _, _ in chance.sample(rows, min(len(rows), 25)):
                self.flag(row in known, is_stuck, evening, web, row)
            for row in sorted(known)[:10]:
                self.flag(True, is_stuck, evening, web, row)
                self.changes(evening, web, row, known)
        self.assertGreater(min(found.values()), 40)

    def changes(self, evening, web, row, known):
        """One change of a row, and whether it is still one behind which somebody is stuck."""
        for place in range(len(row)):
            for pair in everything(evening):
                other = row[:place] + (pair,) + row[place + 1:]
                self.flag(other in known, is_stuck, evening, web, other)
            lesser = row[:place] + row[place + 1:]
            self.flag(lesser in known, is_stuck, evening, web, lesser)
        self.flag(False, is_stuck, evening, web, list(row))

    def test_judged_things(self):
        self.flag(True, is_stuck, Q, WEB, ((1, 0),))
        self.flag(True, is_stuck, Q, WEB, ((1, 0), (1, 1)))
        self.flag(False, is_stuck, Q, WEB, ())
        self.flag(False, is_stuck, Q, WEB, ((0, 0), (1, 0), (1, 1)))
        for thing in (((1, 0), (0, 1)), ((0, 1),), ((1, 0), (0, 0)), ((1, 1), (0, 1)), ((True, 0),), ((1, False),), ([1, 0],),
                      [(1, 0)], (1, 0), ((1, 0), None), ((1, 0), ()), ((1, 2),), ((2, 0),), ((-1, 0),), None, 0, ((1, 0, 0),),
                      ((1, 0), (1, 0)), (((1, 0),),), ((10 ** 39, 0),), {(1, 0): 0}, iter(((1, 0),))):
            self.flag(False, is_stuck, Q, WEB, thing)
        for thing in strangers():
            self.flag(False, is_stuck, Q, WEB, thing)
        # Who has just become quits is not stuck, nor who can still pay somebody.
        evening = reference.evening([2, 2], [2, 2])
        web = ((0, 0), (1, 0), (1, 1))
        self.flag(False, is_stuck, evening, web, ((0, 0),))
        self.flag(True, is_stuck, evening, web, ((1, 0),))

    def test_not_settled(self):
        for web in ((), ((0, 0),), ((0, 0), (1, 1)), ((1, 0), (1, 1)), ((0, 0), (0, 1))):
            self.refused(NotSettled, {}, stuck, Q, web)
            self.refused(NotSettled, {}, is_safe, Q, web)
            for thing in ((), None, ((1, 0),), ((0, 0),)):
                self.refused(NotSettled, {}, is_stuck, Q, web, thing)
        self.refused(NotSettled, {}, stuck, WIDE, everything(WIDE)[100:])

    def test_missing(self):
        self.assertEqual(missing(Q, ()), ())
        self.assertEqual(missing(Q, ((0, 0), (1, 1))), ())
        self.assertEqual(missing(Q, ((0, 0), (0, 1), (1, 1))), ((1, 0),))
        self.assertEqual(missing(P, ((0, 0), (0, 2), (1, 2))), ((1, 0),))
        self.assertEqual(missing(P, ((0, 0), (1, 0), (1, 1), (2, 1), (2, 2))), ((0, 1), (0, 2), (1, 2), (2, 0)))
        for evening, web in small_webs(65, 100, 8):
            found = missing(evening, web)
            self.assertIs(type(found), tuple)
            self.plain(found)
            self.assertEqual(found, tuple(pair for pair in hanging(evening, web) if pair not in web))
            more = safer(evening, web)
            self.assertEqual(more, tuple(sorted(web + found)))
            self.flag(True, is_web, evening, more)
            self.assertEqual(missing(evening, more), ())
            self.assertEqual(safer(evening, more), more)
            if can_settle(evening, web):
                self.flag(True, is_safe, evening, more)

    def test_rests_of_others_in_one_piece(self):
        # Here two owers, one behind the other, give what they can to the takers of the first one, in one piece of
        # pairs, and both have more: how it is split between them decides what can be paid in a row.
        for owed, due, web in (
                ([1, 8, 3, 14], [5, 3, 5, 5, 7, 1],
                 ((0, 0), (0, 1), (0, 2), (0, 5), (1, 0), (1, 2), (1, 3), (1, 4), (1, 5), (2, 0), (3, 1), (3, 2), (3, 3),
                  (3, 4))),
                ([3, 6, 6, 5, 1, 2, 5], [11, 4, 8, 5],
                 ((0, 0), (0, 2), (0, 3), (1, 0), (1, 2), (2, 0), (2, 3), (3, 1), (3, 3), (4, 2), (5, 0), (5, 1), (5, 3),
                  (6, 0)))):
            evening = reference.evening(owed, due)
            self.assertTrue(can_settle(evening, web))
            self.assertTrue(self.stuck(evening, web))

    def test_long_chains(self):
        for many in (2, 3, 20, 100):
            evening = reference.evening([2] * many, [3] + [2] * (many - 2) + [1])
            chain = tuple(sorted([(k, k) for k in range(many)] + [(k + 1, k) for k in range(many - 1)]))
            self.assertTrue(self.stuck(evening, chain))
            self.assertEqual(len(missing(evening, chain)), many * many - 2 * many + 1)
            turned = tuple(sorted((many - 1 - ower, many - 1 - taker) for ower, taker in chain))
            other = reference.evening([2] * many, [1] + [2] * (many - 2) + [3])
            self.assertTrue(self.stuck(other, turned))
            ring = tuple(sorted(set(chain) | {(0, many - 1)}))
            self.assertEqual(self.stuck(evening, ring), many > 2)
            ones = Evening((ONE,) * many, (ONE,) * many)
            self.assertTrue(self.stuck(ones, chain))

    def test_two_halves(self):
        chance = random.Random(66)
        for many in (1, 2, 10, 50):
            half = reference.some_evening(chance, many, many, 9)
            other = reference.some_evening(chance, many, many, 9)
            both = joined(half, other)
            halves = tuple((ower + at, taker + at) for at in (0, many) for ower in range(many) for taker in range(many))
            halves = tuple(sorted(halves))
            self.assertFalse(self.stuck(both, halves))
            self.assertTrue(self.stuck(both, tuple(sorted(halves + ((0, 2 * many - 1),)))))
            self.assertTrue(self.stuck(both, tuple(sorted(halves + ((2 * many - 1, 0),)))))
            pairs = everything(both)
            for place in (0, len(pairs) // 2, len(pairs) - 1):
                lesser = pairs[:place] + pairs[place + 1:]
                if can_settle(both, lesser):
                    self.assertTrue(self.stuck(both, lesser))
            self.assertFalse(self.stuck(both, pairs))

    def test_many_people(self):
        chance = random.Random(67)
        for owers, takers, most in ((40, 60, 9), (100, 100, 10 ** 6), (60, 40, 1), (3, 100, 50)):
            evening = reference.some_evening(chance, owers, takers, most, Fraction(2, 3))
            ties = set(reference.drawn_way(chance, evening))
            for more in (0, 5, 300):
                ties |= {(chance.randrange(owers), chance.randrange(takers)) for _ in range(more)}
                self.stuck(evening, tuple(sorted(ties)))

    def test_some_more_small_ones(self):
        chance = random.Random(68)
        found = {True: 0, False: 0}
        for _ in range(400):
            evening = reference.some_evening(chance, chance.randint(2, 5), chance.randint(2, 5), chance.choice([1, 2, 5]))
            ties = set(reference.drawn_way(chance, evening)) | set(chance.sample(everything(evening), chance.randint(0, 3)))
            found[self.stuck(evening, tuple(sorted(ties)))] += 1
        self.assertGreater(found[True], 100)


class TestNumbers(Checks, unittest.TestCase):
    def test_some(self):
        self.assertEqual(web_numbers(Q, WEB), [3])
        self.assertEqual(web_numbers(Q, ((0, 0), (1, 1))), [])
        self.assertEqual(web_numbers(Q, ()), [])
        self.assertEqual(web_numbers(P, ((0, 0), (1, 1), (2, 2))), [3])
        self.assertEqual(web_numbers(P, ((0, 1), (0, 2), (1, 0), (2, 0))), [4])
        self.assertEqual(web_numbers(SINGLE, ((0, 0),)), [1])
        self.assertEqual(web_numbers(SINGLE, ()), [])

    def test_against_all_ways(self):
        some = 0
        for evening, web in small_webs(69, 120, 6):
            ways = reference.all_ways(evening)
            numbers = sorted({len(way) for way in ways if set(way) <= set(web)})
            found = web_numbers(evening, web)
            self.assertEqual(found, numbers)
            self.assertIs(type(found), list)
            self.plain(found)
            self.assertEqual(found == [], not can_settle(evening, web))
            some += len(found) > 1
        self.assertGreater(some, 10)

    def test_numbers_with_holes(self):
        # The ties are a ring: the people can be three pieces, or one, but not two.
        evening = reference.evening([3, 1, 2], [1, 2, 3])
        ring = ((0, 0), (0, 2), (1, 0), (1, 1), (2, 1), (2, 2))
        self.assertEqual(web_numbers(evening, ring), [3, 5])
        self.assertEqual(web_numbers(evening, everything(evening)), [3, 4, 5])
        evening = reference.evening([2, 2, 1, 2], [2, 1, 2, 2], Fraction(1, 3))
        web = ((0, 0), (0, 2), (1, 1), (1, 2), (1, 3), (2, 0), (2, 1), (3, 0), (3, 2), (3, 3))
        self.assertEqual(web_numbers(evening, web), [4, 6, 7])

    def test_along_all_pairs(self):
        for evening in [P, Q, SINGLE] + reference.small_evenings(71, 60, 9):
            found = web_numbers(evening, everything(evening))
            self.assertEqual(found, list(range(fewest(evening), greatest(evening) + 1)))

    def test_nine_and_ten_people(self):
        chance = random.Random(72)
        for owers in range(1, 9):
            for most in (1, 2, 5):
                evening = reference.some_evening(chance, owers, 9 - owers, most, Fraction(3, 2))
                ways = [reference.drawn_way(chance, evening) for _ in range(40)]
                self.assertEqual(web_numbers(evening, everything(evening)),
                                 list(range(fewest(evening), greatest(evening) + 1)))
                for way in ways[:10]:
                    self.assertEqual(web_numbers(evening, tuple(sorted(way))), [len(way)])
                web = tuple(sorted(set(ways[0]) | set(ways[1]) | set(ways[2])))
                numbers = {len(way) for way in ways if set(way) <= set(web)}
                self.assertLessEqual(numbers, set(web_numbers(evening, web)))
        for evening in (Evening((ONE,) * 5, (ONE,) * 5), Evening(((9, 1),), (ONE,) * 9), WIDE):
            for web in ((), everything(evening), ((0, 0),)):
                self.refused(TooMany, {"most": 9}, web_numbers, evening, web)
            for thing in (None, [], [(0, 0)], ((0, 0), (0, 0)), ((people(evening), 0),), ((True, 0),)):
                self.refused(NoWeb, {}, web_numbers, evening, thing)


if __name__ == "__main__":
    unittest.main()
