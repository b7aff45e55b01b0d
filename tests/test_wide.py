"""0.3 and 0.5: evenings that were returned, with more than 100 people a side, in every function; sums of many figures."""

import random
import re
import unittest

from quitsways import alike, cheapest, counting, drawings, draws, evenings, games, ladders, numbers, pairs, parts, payers
from quitsways import queues, reading, settlements, texts, ways, webs
from quitsways.errors import BadEvening, BadText, NoPair, TooMany
from quitsways.evenings import Evening, joined, mirrored, part, people, scaled, total
from quitsways.sittings import Sitting
from tests import reference
from tests.strangers import Checks
from tests.test_language import INTERFACE

ONE = (1, 1)
BIG = 10 ** 40 - 1
ONES = Evening((ONE,) * 100, (ONE,) * 100)
MANY = 130
# 130 owers with sums of 1 and 2, and 130 takers: not alike, but with a known way of each payment double.
WIDE = joined(ONES, Evening((ONE, (2, 1)) * 15, (ONE, (2, 1)) * 15))
WAY = tuple((number, number) for number in range(MANY))
EVERYONE = tuple(range(MANY))
WEB = WAY
RING = tuple(sorted(WAY + tuple((number, (number + 1) % MANY) for number in range(MANY))))
PRICES = ((1,) * MANY,) * MANY
SETTLEMENT = tuple(tuple(WIDE.owed[ower] if ower == taker else (0, 1) for taker in range(MANY)) for ower in range(MANY))
ALL_ONES = (((1, 1),) * MANY, ((0, 1),) * MANY)
TEXT = "owed" + " 1" * 100 + " 1 2" * 15 + "\ndue" + " 1" * 100 + " 1 2" * 15 + "\n"


def front(left):
    """The least pair that can pay."""
    return (next(number for number, rest in enumerate(left[0]) if rest[0]),
            next(number for number, rest in enumerate(left[1]) if rest[0]))


# Calls, and what they return.
ANSWERS = [
    (evenings.total, (WIDE,), (145, 1)), (evenings.measure, (WIDE,), ONE), (evenings.people, (WIDE,), 260),
    (evenings.mirrored, (WIDE,), WIDE), (evenings.is_group, (WIDE, (EVERYONE, ())), True),
    (evenings.is_even, (WIDE, (EVERYONE, EVERYONE)), True), (evenings.part, (WIDE, (EVERYONE, EVERYONE)), WIDE),
    (ways.rests, (WIDE, WAY), (((0, 1),) * MANY,) * 2), (ways.paid, (WIDE, WAY), WIDE.owed), (ways.led, (WIDE, front), WAY),
    (ways.is_row, (WIDE, WAY[5:]), True), (ways.is_way, (WIDE, WAY), True), (drawings.doubles, (WIDE, WAY), EVERYONE),
    (drawings.drawing, (WIDE, WAY[::-1]), WAY), (drawings.way_for, (WIDE, WAY), WAY), (drawings.is_drawing, (WIDE, WAY), True),
    (drawings.pieces, (WIDE, WAY), [((number,), (number,)) for number in range(MANY)]),
    (parts.is_parting, (WIDE, tuple(((number,), (number,)) for number in range(MANY))), True), (numbers.greatest, (WIDE,), 145),
    (alike.unit_of, (WIDE,), None), (settlements.is_settlement, (WIDE, SETTLEMENT), True),
    (settlements.settled, (WIDE, WAY), SETTLEMENT), (settlements.mixture, (WIDE, SETTLEMENT), [(ONE, WAY)]),
    (settlements.is_mixture, (WIDE, SETTLEMENT, [((1, 2), WAY), ((1, 2), WAY[::-1])]), True),
    (cheapest.cost, (WIDE, PRICES, SETTLEMENT), (145, 1)), (cheapest.is_bound, (WIDE, PRICES, (145, 1), ALL_ONES), True),
    (pairs.surely, (WIDE,), []), (webs.is_web, (WIDE, RING), True), (webs.can_settle, (WIDE, WEB), True),
    (webs.settle, (WIDE, WEB), SETTLEMENT), (webs.cut, (WIDE, WEB), None), (webs.is_cut, (WIDE, WEB[1:], (0, 5)), True),
    (webs.stuck, (WIDE, WEB), None), (webs.is_safe, (WIDE, WEB), True), (webs.is_safe, (WIDE, RING), False),
    (webs.is_stuck, (WIDE, RING, ((0, 1), (1, 2))), False), (webs.missing, (WIDE, WEB), ()), (webs.safer, (WIDE, WEB), WEB),
    (queues.queue_way, (WIDE, EVERYONE, EVERYONE), WAY), (queues.queue_number, (WIDE, EVERYONE, EVERYONE), MANY),
    (queues.queue_unit, (WIDE,), None), (payers.tried, (WIDE, front), (WAY, "quits", MANY)),
    (payers.rule_way, (WIDE, "front"), WAY), (texts.evening_text, (WIDE,), TEXT),
    (texts.row_text, (WAY,), "".join(f"{number} {number}\n" for number in range(MANY))),
    (reading.read_row, (WIDE, texts.row_text(WAY)), WAY),
]

# Calls that are refused, as there are too many people or pairs.
REFUSED = [
    (14, parts.most_parts, ()), (14, parts.parting, ()), (14, parts.partings, ()), (14, parts.even_groups, ()),
    (14, parts.least_groups, ()), (9, ladders.ladder, ()), (9, ladders.is_ladder, (3, {})), (14, numbers.fewest, ()),
    (14, numbers.short_way, ()), (14, numbers.can_have, (130,)), (14, numbers.way_of, (130,)), (14, alike.is_alike, ()),
    (14, alike.unlike_ways, ()), (20, cheapest.cheapest, (PRICES,)), (20, cheapest.bound, (PRICES,)),
    (14, pairs.can_pass, (0, 0, ONE)), (14, pairs.passing, (0, 0)), (14, pairs.way_passing, (0, 0, ONE)), (8, pairs.most_by, (0,)),
    (8, pairs.least_by, (0,)), (9, webs.web_numbers, (WEB,)), (9, queues.queue_least, ()), (9, queues.queue_most, ()),
    (14, queues.queues_alike, ()), (14, queues.unlike_queues, ()), (8, counting.many_ways, ()), (8, counting.ways_by_number, ()),
    (8, counting.all_ways, ()), (8, counting.way_at, (0,)), (8, counting.way_number, (WAY,)), (8, counting.drawings, ()),
    (8, draws.shares, ()), (8, draws.mean, ()), (8, draws.likely, (0, 0)), (8, games.game, ()), (8, games.reply, ((), 0, "few")),
    (10, drawings.many_ways_for, (WAY,)),
]

# Functions that are tried below, or that take no evening.
BELOW = {"Evening", "scaled", "joined", "long_way", "without", "worst", "Sitting", "read_evening", "loaves", "Ledger", "Desk"}


class TestWide(Checks, unittest.TestCase):
    def test_each_function_is_tried_here(self):
        tried = {function.__name__ for function, _, _ in ANSWERS} | {function.__name__ for _, function, _ in REFUSED} | BELOW
        self.assertEqual({name for listed in INTERFACE.values() for name in re.findall(r"(\w+)\(", listed)}, tried)

    def test_answers(self):
        self.assertTrue(len(WIDE.owed) > 100 and len(WIDE.due) > 100)
        for function, arguments, answer in ANSWERS:
            self.assertEqual(function(*arguments), answer, function.__name__)
            self.assertIs(type(function(*arguments)), type(answer), function.__name__)

    def test_refused(self):
        for most, function, arguments in REFUSED:
            self.refused(TooMany, {"most": most}, function, WIDE, *arguments)

    def test_made_of_it(self):
        wider = scaled(joined(WIDE, mirrored(WIDE)), (1, 3))
        self.assertEqual((people(wider), total(wider)), (520, (290, 3)))
        self.assertEqual(part(wider, (EVERYONE, EVERYONE)), scaled(WIDE, (1, 3)))
        self.refused(BadEvening, {"part": "owed"}, Evening, WIDE.owed, WIDE.due)

    def test_ways_of_it(self):
        chance = random.Random(170)
        self.assertEqual(len(numbers.long_way(WIDE)), 145)
        for way in (numbers.long_way(WIDE), pairs.without(WIDE, 0, 0), payers.rule_way(WIDE, "greatest"),
                    payers.rule_way(WIDE, "least"), reference.drawn_way(chance, WIDE)):
            self.assertTrue(reference.is_way(WIDE, way))
        self.assertNotIn((0, 0), pairs.without(WIDE, 0, 0))
        self.refused(NoPair, {"place": 3}, ways.led, WIDE, lambda left: front(left) if left[0][2][0] else None)
        self.refused(TooMany, {"most": 14}, payers.worst, front, [WIDE])
        row = webs.stuck(WIDE, RING)
        self.flag(True, webs.is_stuck, WIDE, RING, row)

    def test_sitting(self):
        sitting = Sitting(WIDE)
        for number in range(MANY):
            self.assertEqual(sitting.pay(number, number), WIDE.owed[number])
        self.assertEqual((sitting.so_far(), sitting.is_over(), sitting.ends()), (WAY, True, (MANY, MANY)))
        for _ in range(MANY):
            sitting.back()
        self.refused(TooMany, {"most": 14}, sitting.ends)
        self.refused(TooMany, {"most": 14}, sitting.toward, MANY)
        self.assertEqual(len(sitting.can_pay()), MANY * MANY)

    def test_texts(self):
        self.refused(BadEvening, {"part": "owed"}, reading.read_evening, TEXT)
        self.refused(BadText, {"line": 1}, reading.read_evening, texts.evening_text(scaled(scaled(WIDE, (BIG, 1)), (BIG, 1))))


class TestManyFigures(Checks, unittest.TestCase):
    def test_all(self):
        evening = Evening((ONE, (3, 1), (4, 1)), ((2, 1), (6, 1)))
        way = ((0, 0), (1, 0), (1, 1), (2, 1))
        amount = ONE
        for _ in range(120):
            evening = scaled(evening, (BIG, 10 ** 39))
            amount = (amount[0] * BIG, amount[1] * 10 ** 39)
        self.assertEqual(evening.owed[0], amount)
        self.assertEqual(ways.paid(evening, way)[0], amount)
        self.assertEqual((numbers.fewest(evening), numbers.greatest(evening)), (4, 4))
        self.assertEqual(settlements.mixture(evening, settlements.settled(evening, way)), [(ONE, way)])
        self.assertEqual(pairs.passing(evening, 0, 0), [amount])
        self.assertEqual(counting.way_number(evening, counting.way_at(evening, 7)), 7)
        self.assertEqual(draws.mean(evening), (4, 1))
        self.assertEqual(queues.queue_unit(evening), None)
        self.assertEqual(cheapest.cheapest(evening, ((1, 1),) * 3)[0], total(evening))
        self.flag(True, pairs.can_pass, evening, 0, 0, amount)
        text = texts.evening_text(evening)
        self.assertGreater(len(text), 4300 * 5)
        self.refused(BadText, {"line": 1}, reading.read_evening, text)


if __name__ == "__main__":
    unittest.main()
