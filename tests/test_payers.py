"""14.1: payers, and ways by rules."""

import random
import unittest

from quitsways.errors import NoEvenings, NoRule, NoRow, TooMany
from quitsways.evenings import Evening, joined
from quitsways.numbers import fewest
from quitsways.payers import rule_way, tried, worst
from quitsways.queues import queue_way
from quitsways.ways import rests
from tests import reference
from tests.strangers import Checks, strangers

ONE = (1, 1)
TWO = (2, 1)
P = Evening((TWO, ONE, ONE), (TWO, ONE, ONE))
Q = Evening((ONE, (3, 1)), (TWO, TWO))
SINGLE = Evening((ONE,), (ONE,))
WIDE = Evening((ONE,) * 100, (ONE,) * 100)
FIFTEEN = Evening((ONE,) * 7, ((7, 8),) * 8)
NO_PAIRS = [None, True, [0, 0], (0,), (0, 0, 0), (0, 3), (3, 0), (-1, 0), (0, -1), (False, 0), (0, False), (True, True),
            "00", ("0", "0"), ((0, 0),), {0: 0}, 0, (0, None), ((), ()), (10 ** 39, 0), b"\0\0", (0, (0,))]


def front(left):
    """The least pair that can pay."""
    return min((ower, taker) for ower, rest in enumerate(left[0]) for taker, other in enumerate(left[1])
               if rest[0] and other[0])


def back(left):
    """The greatest pair that can pay."""
    return max((ower, taker) for ower, rest in enumerate(left[0]) for taker, other in enumerate(left[1])
               if rest[0] and other[0])


def along(row, last=None):
    """A payer that gives the pairs of a row, then always the same."""
    given = iter(row)
    return lambda left: next(given, last)


class TestTried(Checks, unittest.TestCase):
    def test_to_the_end(self):
        chance = random.Random(140)
        for evening in [P, Q, SINGLE, WIDE, joined(WIDE, P)] + reference.small_evenings(140, 60, 9):
            way = reference.drawn_way(chance, evening)
            seen = []

            def payer(left):
                seen.append(left)
                return way[len(seen) - 1]
            answer = tried(evening, payer)
            self.assertEqual(answer, (way, "quits", len(way)))
            self.plain((answer[0], answer[2]))
            self.assertEqual(type(answer), tuple)
            self.assertEqual(seen, [rests(evening, way[:place]) for place in range(len(way))])
            self.plain(seen)
            self.assertEqual({type(left) for left in seen} | {type(side) for left in seen for side in left}, {tuple})

    def test_stops(self):
        row = ((0, 1), (1, 0))
        for thing in NO_PAIRS + strangers():
            for place in range(3):
                self.assertEqual(tried(P, along(row[:place], thing)), (row[:place], "stopped", place))
        for quits in ((1, 0), (1, 2), (0, 1), (2, 1)):
            self.assertEqual(tried(P, along(row, quits)), (row, "stopped", 2))
        self.assertEqual(tried(P, lambda left: (0, 0)), (((0, 0),), "stopped", 1))

    def test_errors_go_on(self):
        for error in (KeyError("x"), ValueError(), NoRow(), TooMany(3), StopIteration(), IndexError(), KeyboardInterrupt()):
            for row in ((), ((0, 1),), ((0, 1), (1, 0))):
                given = iter(row)

                def payer(left):
                    pair = next(given, None)
                    if pair is None:
                        raise error
                    return pair
                with self.assertRaises(type(error)) as caught:
                    tried(P, payer)
                self.assertIs(caught.exception, error)

    def test_asked_again(self):
        self.unchanged(tried, P, front)
        self.unchanged(tried, P, lambda left: None)


class TestWorst(Checks, unittest.TestCase):
    def test_stops(self):
        def only_small(left):
            return front(left) if len(left[0]) < 3 else None
        self.assertEqual(worst(only_small, [SINGLE, P, Q, P]), 1)
        self.assertEqual(worst(only_small, (P, SINGLE)), 0)
        self.assertIs(worst(only_small, [SINGLE, Q]), None)
        # Where it stops comes ahead of where it takes too many.
        self.assertEqual(worst(lambda left: back(left) if left[0][0] != ONE else "stop", [Q, P]), 0)
        self.assertEqual(worst(lambda left: None if left[0] == ((0, 1), (3, 1)) else front(left), [P, Q]), 1)
        self.assertEqual(worst(along([(0, 1), (1, 0), (0, 0), (2, 2), (0, 0)]), [P, SINGLE, SINGLE]), 2)

    def test_most_above_the_fewest(self):
        one = reference.evening([1, 2, 3], [1, 2, 3])
        # These two take one and two more than the fewest by their greatest pairs.
        mixed = reference.evening([1, 2, 3], [3, 1, 2])
        numbers = {name: len(tried(evening, front)[0]) - fewest(evening)
                   for name, evening in (("one", one), ("mixed", mixed), ("p", P), ("q", Q))}
        self.assertEqual(numbers, {"one": 0, "mixed": 1, "p": 0, "q": 0})
        self.assertIs(worst(front, [one, P, Q]), None)
        self.assertEqual(worst(front, [one, P, mixed, Q, mixed]), 2)
        far = reference.evening([1, 2, 3, 5, 6], [6, 5, 3, 2, 1])
        self.assertTrue(len(tried(far, front)[0]) - fewest(far) > 1)
        self.assertEqual(worst(front, [mixed, one, far, far, mixed]), 2)
        self.assertEqual(worst(front, (mixed,)), 0)

    def test_against_reference(self):
        chance = random.Random(141)
        evenings = [P, Q, SINGLE] + reference.small_evenings(141, 60, 8)
        for payer in (front, back):
            for _ in range(40):
                some = [chance.choice(evenings) for _ in range(chance.randint(1, 20))]
                above = [tried(evening, payer)[2] - reference.lengths_of(evening)[0] for evening in some]
                wanted = above.index(max(above)) if max(above) else None
                self.assertEqual(worst(payer, chance.choice([list, tuple])(some)), wanted)

    def test_no_evenings(self):
        asked = []
        wrong = [(), [], [P] * 21, (SINGLE,) * 21, (SINGLE,) * 22, [P, None], (None,), [None, P], [P, ((ONE,), (ONE,))], P,
                 {P.owed: P}, [[P]], ((P,),), [P, P.owed], (P, [Q]), {0: P}.values(), iter([P]), "", "P", [P] * 19 + [1, P],
                 [FIFTEEN] * 21, [FIFTEEN, None], [Evening]]
        alone = (Evening(((1, 1),), ((1, 1),)), Evening(((1, 1),), ((1, 1),)))
        for thing in wrong + strangers():
            if thing != alone and thing != [Evening(((1, 2),), ((1, 2),))]:
                self.refused(NoEvenings, {}, worst, asked.append, thing)
        self.assertEqual(asked, [])
        for many in (1, 20):
            self.assertIs(worst(front, [P] * many), None)
            self.assertIs(worst(front, (P,) * many), None)

    def test_too_many_people(self):
        asked = []
        for evenings in ([FIFTEEN], [P, FIFTEEN], (P, Q, WIDE), [P] * 19 + [FIFTEEN], (joined(WIDE, P), P)):
            self.refused(TooMany, {"most": 14}, worst, asked.append, evenings)
        self.assertEqual(asked, [])
        self.assertIs(worst(front, [Evening((ONE,) * 7, (ONE,) * 7)]), None)

    def test_errors_go_on(self):
        def payer(left):
            if len(left[0]) == 3:
                raise KeyError("three")
            return front(left)
        self.assertRaises(KeyError, worst, payer, [SINGLE, P])
        self.assertIs(worst(payer, [SINGLE, Q]), None)

    def test_the_list_may_be_changed_by_the_payer(self):
        evenings = [SINGLE, P, Q]

        def payer(left):
            evenings.clear()
            return front(left) if len(left[0]) != 3 else None
        self.assertEqual(worst(payer, evenings), 1)

    def test_asked_again(self):
        evenings = [P, Q]
        self.assertEqual(worst(back, evenings), worst(back, evenings))
        self.assertEqual((evenings[0] is P, evenings[1] is Q, len(evenings)), (True, True, 2))


class TestRules(Checks, unittest.TestCase):
    def by_rule(self, evening, rule):
        """The way by going through all pairs each time."""
        owing, awaiting = reference.start(evening)
        way = []
        while any(owing):
            pairs = [(ower, taker) for ower, rest in enumerate(owing) for taker, other in enumerate(awaiting) if rest and other]
            paid = [min(owing[ower], awaiting[taker]) for ower, taker in pairs]
            place = {"greatest": paid.index(max(paid)), "least": paid.index(min(paid)), "front": 0}[rule]
            ower, taker = pairs[place]
            owing[ower] -= paid[place]
            awaiting[taker] -= paid[place]
            way.append(pairs[place])
        return tuple(way)

    def test_some(self):
        evening = reference.evening([1, 5, 2], [3, 3, 2])
        self.assertEqual(rule_way(evening, "greatest"), ((1, 0), (1, 1), (2, 2), (0, 1)))
        self.assertEqual(rule_way(evening, "least"), ((0, 0), (1, 0), (1, 2), (1, 1), (2, 1)))
        self.assertEqual(rule_way(evening, "front"), ((0, 0), (1, 0), (1, 1), (2, 2)))
        self.assertEqual(rule_way(P, "least"), ((0, 1), (0, 0), (1, 0), (2, 2)))

    def test_against_all_pairs(self):
        for evening in [P, Q, SINGLE] + reference.small_evenings(142, 300, 10):
            for rule in ("greatest", "least", "front"):
                way = rule_way(evening, rule)
                self.assertEqual(way, self.by_rule(evening, rule))
                self.plain(way)
                self.assertEqual(tried(evening, along(way)), (way, "quits", len(way)))

    def test_many_people(self):
        chance = random.Random(143)
        evening = reference.some_evening(chance, 40, 50, 30)
        for rule in ("greatest", "least", "front"):
            self.assertEqual(rule_way(evening, rule), self.by_rule(evening, rule))
        wider = joined(WIDE, joined(P, WIDE))
        self.assertEqual(rule_way(wider, "front"), queue_way(wider, tuple(range(203)), tuple(range(203))))
        self.assertEqual(rule_way(wider, "greatest")[0], (100, 100))
        self.assertEqual(rule_way(wider, "least")[:2], ((0, 0), (1, 1)))

    def test_no_rule(self):
        for rule in ["", "Greatest", "greatest ", "least\n", "fronts", "fro", "back", b"front", ("front",), ["least"], 0, None,
                     "greatestleast"] + strangers():
            self.refused(NoRule, {}, rule_way, P, rule)
            self.refused(NoRule, {}, rule_way, WIDE, rule)

    def test_asked_again(self):
        for rule in ("greatest", "least", "front"):
            self.unchanged(rule_way, P, rule)


if __name__ == "__main__":
    unittest.main()
