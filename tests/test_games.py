"""13.2: the game."""

import random
import unittest

from quitsways.errors import NoPerson, NoRow, NoWish, TooMany
from quitsways.evenings import Evening, joined
from quitsways.games import game, reply
from quitsways.numbers import fewest, greatest
from tests import reference
from tests.strangers import Checks, strangers
from tests.test_counting import FIVE_AND_FIVE, NINE, P, Q, SINGLE, WIDE, eights

WISHES = {"few": min, "many": max}


# Here it matters whom the first player lets pay.
CHOICES = [reference.evening(owed, due) for owed, due in (
    ([1, 1, 2], [2, 2]), ([1, 2, 3], [3, 3]), ([4, 1, 3], [4, 4]), ([1, 3, 1], [2, 1, 2]), ([1, 2, 2], [2, 2, 1]),
    ([2, 1, 1, 1], [3, 2]), ([1, 2, 3], [2, 2, 2]), ([4, 1, 1], [1, 2, 1, 2]))]


def other(wish):
    return "many" if wish == "few" else "few"


def choices(owing, awaiting):
    """For each ower who can pay the rests behind a payment to each taker who can be paid."""
    found = {}
    for ower, rest in enumerate(owing):
        for taker, due in enumerate(awaiting):
            if rest and due:
                left, awaited = list(owing), list(awaiting)
                left[ower] -= min(rest, due)
                awaited[taker] -= min(rest, due)
                found.setdefault(ower, {})[taker] = (left, awaited)
    return found


def outcome(owing, awaiting, first):
    """The number of payments that comes out, the first player's wish being told, by going through all choices."""
    found = choices(owing, awaiting)
    if not found:
        return 0
    replies = [WISHES[other(first)](1 + outcome(*rests, first) for rests in takers.values()) for takers in found.values()]
    return WISHES[first](replies)


class TestGame(Checks, unittest.TestCase):
    def test_some(self):
        self.assertEqual(game(Q), (3, 3))
        self.assertEqual(game(SINGLE), (1, 1))
        self.assertEqual(game(P), (4, 3))

    def test_against_all_choices(self):
        seen = set()
        for evening in [P, Q, SINGLE] + CHOICES + reference.small_evenings(133, 60, 6):
            start = reference.start(evening)
            self.assertEqual(game(evening), (outcome(*start, "few"), outcome(*start, "many")))
            self.plain(game(evening))
            low, high = game(evening)
            seen.add((low > fewest(evening), high < greatest(evening)))
        self.assertTrue(len(seen) > 1)

    def test_between_fewest_and_greatest(self):
        for evening in eights(134):
            for number in game(evening):
                self.assertTrue(fewest(evening) <= number <= greatest(evening))

    def test_too_many_people(self):
        for evening in (NINE, FIVE_AND_FIVE, WIDE):
            self.refused(TooMany, {"most": 8}, game, evening)

    def test_asked_again(self):
        self.unchanged(game, P)
        self.unchanged(reply, P, ((0, 1),), 0, "few")


class TestReply(Checks, unittest.TestCase):
    def best(self, evening, row, ower, wish):
        """The least taker with whom the second player does best, by going through all choices."""
        owing, awaiting, _ = reference.play(evening, row)
        ends = {taker: outcome(*rests, other(wish)) for taker, rests in choices(owing, awaiting)[ower].items()}
        wanted = WISHES[wish](ends.values())
        return min(taker for taker, number in ends.items() if number == wanted)

    def test_some(self):
        self.assertEqual(reply(P, (), 0, "few"), 0)
        self.assertEqual(reply(P, (), 0, "many"), 1)
        self.assertEqual(reply(P, (), 1, "many"), 0)
        self.assertEqual(reply(SINGLE, (), 0, "few"), 0)
        self.assertEqual(reply(P, ((0, 0),), 1, "few"), 1)

    def test_against_all_choices(self):
        chance = random.Random(135)
        unlike = 0
        for evening in [P, Q, SINGLE] + CHOICES[:6] + reference.small_evenings(135, 60, 6):
            way = reference.drawn_way(chance, evening)
            for place in range(len(way)):
                row = way[:place]
                owing, _, _ = reference.play(evening, row)
                for ower in range(len(owing)):
                    answers = []
                    for wish in WISHES:
                        if owing[ower]:
                            answers.append(reply(evening, row, ower, wish))
                            self.assertEqual(answers[-1], self.best(evening, row, ower, wish))
                            self.plain(answers)
                        else:
                            self.refused(NoPerson, {}, reply, evening, row, ower, wish)
                    unlike += len(set(answers)) > 1
        self.assertTrue(unlike > 10)

    def test_playing_by_replies(self):
        # The second player never gets less by these replies than the game promises, whoever is said to pay.
        chance = random.Random(136)
        for evening in [P] + eights(136)[3:11]:
            for wish in WISHES:
                row = ()
                while not reference.is_way(evening, row):
                    owing, _, _ = reference.play(evening, row)
                    ower = chance.choice([number for number, rest in enumerate(owing) if rest])
                    row += ((ower, reply(evening, row, ower, wish)),)
                low, high = game(evening)
                self.assertTrue(len(row) >= low if wish == "many" else len(row) <= high)

    def test_errors_in_order(self):
        no_rows = [((0, 3),), ((0, 0), (0, 1)), [(0, 0)], ((0,),), (0, 0), None, ((0, True),), ((0, 0), [1, 1])]
        no_people = [3, -1, 10 ** 39, True, False, None, "0", (0,)]
        no_wishes = ["", "Few", "few ", "many\n", "most", b"few", ("few",), ["many"], 0, None, True, "fewmany", "other"]
        for row in no_rows:
            for ower in [0] + no_people:
                for wish in ["few"] + no_wishes:
                    self.refused(NoRow, {}, reply, P, row, ower, wish)
        for ower in no_people:
            for wish in ["many"] + no_wishes:
                self.refused(NoPerson, {}, reply, P, ((0, 0),), ower, wish)
        for wish in ["few", "many"] + no_wishes:
            self.refused(NoPerson, {}, reply, P, ((0, 0),), 0, wish)
        for wish in no_wishes:
            self.refused(NoWish, {}, reply, P, ((0, 0),), 1, wish)
        way = ((0, 0), (1, 1), (2, 2))
        for ower in range(3):
            self.refused(NoPerson, {}, reply, P, way, ower, "few")

    def test_strangers(self):
        for thing in strangers():
            if thing != ():
                self.refused(NoRow, {}, reply, P, thing, thing, thing)
            if type(thing) is not int or not 0 <= thing < 3:
                self.refused(NoPerson, {}, reply, P, ((0, 1),), thing, thing)
            self.refused(NoWish, {}, reply, P, (), 0, thing)

    def test_too_many_people_last(self):
        for evening in (NINE, FIVE_AND_FIVE, WIDE, joined(P, Q)):
            for row in ((), ((0, 0),)):
                self.refused(NoRow, {}, reply, evening, row + (None,), None, None)
                self.refused(NoPerson, {}, reply, evening, row, -1, None)
                self.refused(NoWish, {}, reply, evening, row, 1, "some")
                self.refused(TooMany, {"most": 8}, reply, evening, row, 1, "few")
        # What is left does not matter, but how many people there are.
        row = tuple((number, number) for number in range(4))
        self.refused(NoPerson, {}, reply, FIVE_AND_FIVE, row, 0, "few")
        self.refused(TooMany, {"most": 8}, reply, FIVE_AND_FIVE, row, 4, "few")


if __name__ == "__main__":
    unittest.main()
