"""13.1: ways that are drawn."""

import unittest
from collections import defaultdict
from fractions import Fraction

from quitsways.counting import all_ways, ways_by_number
from quitsways.draws import likely, mean, shares
from quitsways.errors import NoPerson, TooMany
from quitsways.evenings import Evening, joined
from quitsways.pairs import surely
from tests import reference
from tests.strangers import Checks, strangers
from tests.test_counting import FIVE_AND_FIVE, NINE, P, Q, SINGLE, WIDE, eights


def drawn(evening):
    """How likely each way is, drawn payment by payment."""
    found = {}

    def go_on(owing, awaiting, row, share):
        pairs = [(ower, taker) for ower, rest in enumerate(owing) for taker, other in enumerate(awaiting) if rest and other]
        if not pairs:
            found[row] = share
        for ower, taker in pairs:
            lesser = min(owing[ower], awaiting[taker])
            left, due = list(owing), list(awaiting)
            left[ower] -= lesser
            due[taker] -= lesser
            go_on(left, due, row + ((ower, taker),), share / len(pairs))

    go_on(*reference.start(evening), (), Fraction(1))
    return found


def all_pairs(evening):
    return [(ower, taker) for ower in range(len(evening.owed)) for taker in range(len(evening.due))]


class TestDraws(Checks, unittest.TestCase):
    def test_some(self):
        self.assertEqual((shares(Q), mean(Q)), ({3: (1, 1)}, (3, 1)))
        self.assertEqual([likely(Q, *pair) for pair in all_pairs(Q)], [(1, 2), (1, 2), (1, 1), (1, 1)])
        self.assertEqual((shares(SINGLE), mean(SINGLE), likely(SINGLE, 0, 0)), ({1: (1, 1)}, (1, 1), (1, 1)))
        self.assertEqual((shares(P), mean(P)), ({3: (1, 3), 4: (2, 3)}, (11, 3)))

    def test_against_drawing(self):
        for evening in [P, Q] + reference.small_evenings(130, 60, 6):
            numbers = defaultdict(Fraction)
            pairs = defaultdict(Fraction)
            for way, share in drawn(evening).items():
                numbers[len(way)] += share
                for pair in way:
                    pairs[pair] += share
            self.assertEqual(shares(evening), {number: reference.amount(share) for number, share in numbers.items()})
            self.assertEqual(mean(evening), reference.amount(sum(number * share for number, share in numbers.items())))
            for pair in all_pairs(evening):
                self.assertEqual(likely(evening, *pair), reference.amount(pairs[pair]))
            self.plain((shares(evening), mean(evening), likely(evening, 0, 0)))

    def test_sums(self):
        for evening in [P, Q] + reference.small_evenings(131, 40, 8) + eights(132):
            told = {number: reference.fraction(share) for number, share in shares(evening).items()}
            self.assertEqual(sum(told.values()), 1)
            self.assertEqual(set(told), set(ways_by_number(evening)))
            self.assertTrue(min(told.values()) > 0)
            self.assertEqual(mean(evening), reference.amount(sum(number * share for number, share in told.items())))
            likelies = {pair: reference.fraction(likely(evening, *pair)) for pair in all_pairs(evening)}
            self.assertEqual(reference.amount(sum(likelies.values())), mean(evening))
            self.assertEqual([pair for pair, share in likelies.items() if share == 1], surely(evening))

    def test_even_is_not_evenly_over_all_ways(self):
        evening = reference.evening([1, 3], [1, 1, 2])
        ways = all_ways(evening)
        counted = Fraction(sum(len(way) for way in ways), len(ways))
        self.assertNotEqual(reference.fraction(mean(evening)), counted)
        self.assertEqual(reference.fraction(mean(evening)), sum(len(way) * share for way, share in drawn(evening).items()))

    def test_no_person(self):
        for thing in strangers() + [2, -1, 10 ** 39, True]:
            if type(thing) is not int or not 0 <= thing < 2:
                self.refused(NoPerson, {}, likely, Q, thing, 0)
                self.refused(NoPerson, {}, likely, Q, 1, thing)
                self.refused(NoPerson, {}, likely, Q, thing, thing)
        lone = reference.evening([3], [1, 2])
        self.refused(NoPerson, {}, likely, lone, 1, 0)
        self.assertEqual(likely(lone, 0, 1), (1, 1))

    def test_too_many_people_ahead(self):
        for evening in (NINE, FIVE_AND_FIVE, WIDE, joined(P, Q)):
            self.refused(TooMany, {"most": 8}, shares, evening)
            self.refused(TooMany, {"most": 8}, mean, evening)
            for thing in strangers():
                self.refused(TooMany, {"most": 8}, likely, evening, thing, 0)
                self.refused(TooMany, {"most": 8}, likely, evening, 0, thing)

    def test_asked_again(self):
        self.unchanged(shares, P)
        self.unchanged(mean, P)
        self.unchanged(likely, P, 0, 1)


if __name__ == "__main__":
    unittest.main()
