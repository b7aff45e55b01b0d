"""16.1 and 16.2: the desk."""

import random
import unittest

from quitsways.desk import Desk
from quitsways.errors import BadEvening, BadText, NoLine, NoName, NoPerson, NothingDone, TooMany
from quitsways.evenings import Evening, measure, total
from quitsways.numbers import fewest, greatest
from quitsways.pairs import passing, surely
from quitsways.parts import most_parts
from quitsways.reading import read_row
from quitsways.texts import amount_text, evening_text, row_text
from quitsways.alike import is_alike
from tests import reference
from tests.strangers import Checks, strangers

P_TEXT = "owed 2 1 1|due 2 1 1|"
Q_TEXT = "owed 1 3|due 2 2|"
HALVES = "owed 1/2 5/3|due 2/3 3/2|"
FIFTEEN = "owed 1 1 1 1 1 1 1 2|due 3 1 1 1 1 1 1|"
BY_NAME = ["drop", "show", "range", "parts", "alike", "measure", "total", "surely"]


def word(text):
    """A text as a line has it."""
    return text.replace("\n", "|")


def desk_with(**texts):
    """A desk with some evenings."""
    desk = Desk()
    for name, text in texts.items():
        desk.tell(f"evening {name} {text}")
    return desk


def kept(desk):
    """All evenings' texts by their names."""
    names = desk.tell("names").split(" ")
    return {name: desk.tell("show " + name) for name in names} if desk.tell("names") != "none" else {}


class TestLines(Checks, unittest.TestCase):
    def test_example(self):
        desk = Desk()
        for line, answer in (
                ("names", "none"), (f"evening q {Q_TEXT}", "ok"), ("names", "q"), (f"evening p {P_TEXT}", "ok"),
                ("names", "p q"), ("show q", Q_TEXT), ("show p", P_TEXT), ("range p", "3 4"), ("range q", "3 3"),
                ("parts p", "3"), ("parts q", "1"), ("alike p", "no"), ("alike q", "yes"), ("measure p", "1"), ("total p", "4"),
                ("pass q 1 0", "1 2"), ("pass q 0 0", "1"), ("judge q 0 0|1 1|1 0|", "way"), ("judge q 0 0|1 1|", "row"),
                ("judge q 0 0|0 1|", "none"), ("surely q", "1,0 1,1"), ("surely p", "none"), ("way p 5", "none"),
                ("way p 2", "none"), ("way p 0", "none"), ("way p 999999999", "none"), (f"evening h {HALVES}", "ok"),
                ("measure h", "1/6"), ("total h", "13/6"), ("pass h 1 1", "1 3/2"), ("names", "h p q"), ("drop p", "ok"),
                ("names", "h q"), ("undo", "ok"), ("names", "h p q")):
            self.assertEqual(desk.tell(line), answer, line)
            self.assertIs(type(desk.tell("names")), str)

    def test_against_functions(self):
        for evening in reference.small_evenings(160, 60, 8):
            desk = desk_with(some=word(evening_text(evening)))
            self.assertEqual(desk.tell("show some"), word(evening_text(evening)))
            self.assertEqual(desk.tell("range some"), f"{fewest(evening)} {greatest(evening)}")
            self.assertEqual(desk.tell("parts some"), str(most_parts(evening)))
            self.assertEqual(desk.tell("alike some"), "yes" if is_alike(evening) else "no")
            self.assertEqual(desk.tell("measure some"), amount_text(measure(evening)))
            self.assertEqual(desk.tell("total some"), amount_text(total(evening)))
            for ower in range(len(evening.owed)):
                for taker in range(len(evening.due)):
                    amounts = [amount_text(amount) for amount in passing(evening, ower, taker)]
                    self.assertEqual(desk.tell(f"pass some {ower} {taker}"), " ".join(amounts))
            pairs = [f"{ower},{taker}" for ower, taker in surely(evening)]
            self.assertEqual(desk.tell("surely some"), " ".join(pairs) if pairs else "none")
            for number in range(greatest(evening) + 2):
                text = desk.tell(f"way some {number}")
                if number in reference.lengths_of(evening):
                    way = read_row(evening, text.replace("|", "\n"))
                    self.assertEqual((len(way), reference.is_way(evening, way)), (number, True))
                    self.assertEqual(desk.tell(f"judge some {text}"), "way")
                else:
                    self.assertEqual(text, "none")
            self.assertEqual(desk.undoable(), 1)

    def test_judge(self):
        chance = random.Random(161)
        for evening in reference.small_evenings(162, 30, 8):
            desk = desk_with(e=word(evening_text(evening)))
            way = reference.drawn_way(chance, evening)
            for place in range(1, len(way) + 1):
                answer = "way" if place == len(way) else "row"
                self.assertEqual(desk.tell("judge e " + word(row_text(way[:place]))), answer)
            for row in (way + way[:1], way[:1] * 2, ((len(evening.owed), 0),), way[:1] + ((0, 999999999),)):
                self.assertEqual(desk.tell("judge e " + word(row_text(row))), "none")

    def test_names(self):
        desk = desk_with(b=P_TEXT, abcdefgh=Q_TEXT, ab=P_TEXT, none=Q_TEXT, z=HALVES, names=P_TEXT)
        self.assertEqual(desk.tell("names"), "ab abcdefgh b names none z")
        self.assertEqual(desk.tell("show none"), Q_TEXT)
        self.assertEqual(desk.tell("show names"), P_TEXT)
        self.assertEqual(desk.tell("evening undo " + Q_TEXT), "ok")
        self.assertEqual(desk.tell("drop undo"), "ok")
        self.assertEqual(desk.undoable(), 8)

    def test_asked_again(self):
        desk = desk_with(p=P_TEXT)
        for line in ("names", "show p", "range p", "way p 4", "parts p", "alike p", "measure p", "total p", "pass p 0 0",
                     "judge p 0 0|", "surely p"):
            self.unchanged(desk.tell, line)
        self.assertEqual((desk.undoable(), kept(desk)), (1, {"p": P_TEXT}))

    def test_equal_to_nothing_else(self):
        for thing in strangers():
            self.assertFalse(Desk() == thing)


class TestNoLine(Checks, unittest.TestCase):
    def no_line(self, *lines):
        """None of these is a line, whether the names are known or not, and nothing changes."""
        for desk in (Desk(), desk_with(p=P_TEXT, q=Q_TEXT)):
            before = (kept(desk), desk.undoable())
            for line in lines:
                self.refused(NoLine, {}, desk.tell, line)
            self.assertEqual((kept(desk), desk.undoable()), before)

    def test_strangers(self):
        self.no_line(*strangers())
        self.no_line(b"names", ["names"], ("names",), {"names": 1}, None, ["evening", "p", P_TEXT])

    def test_words(self):
        self.no_line("", " ", "Names", "name", "namess", "names ", " names", "names p", "names  ", "undo ", " undo", "undo p", "undo 1",
                     "evening", "evening ", "evening p", "evening p ", f"evening  p {P_TEXT}", f" evening p {P_TEXT}",
                     f"Evening p {P_TEXT}", f"evening 1 {P_TEXT}", "way", "pass", "judge", "quit", "p", "help", "names\t", "names|",
                     "ok", "none", "\tnames", "undo\r", "names\x0b", "names\u2028", "names\u00a0")
        for first in BY_NAME:
            self.no_line(first, first + " ", f"{first}  p", f"{first} p ", f"{first} p q", f" {first} p", f"{first}\tp", f"{first} P",
                         f"{first.upper()} p", f"{first} p1", f"{first} abcdefghi", f"{first} p\t", f"{first} \u0430", f"{first} p|",
                         f"{first} p 1", f"{first} 1", f"{first}p", f"{first} p\r", f"{first} \u00e4", f"{first},p")

    def test_line_feeds(self):
        self.no_line("\n", "names\n", "\nnames", "undo\n", "show p\n", "show\np", f"evening p {P_TEXT}\n",
                     "evening p owed 1\ndue 1\n", "evening p owed 1|due 1|\n", "judge p 0 0\n", "judge p 0 0|\n", "way p 3\n", "pass p 0 0\n")

    def test_numbers(self):
        for number in ("", "00", "01", "007", "-1", "+1", "1.", "1/1", "x", "1234567890", "0000000000", "1_0", " 1", "1 ", "\u0661",
                       "\uff11", "\u00b2", "1e1", "0x1", "1\t", "1|", "9" * 5000):
            self.no_line(f"way p {number}", f"pass p {number} 0", f"pass p 0 {number}", f"pass x {number} 0", f"way x {number}")
        self.no_line("way p", "way p ", "way p 3 4", "way p 3 ", "way 3 p", "way 3", "pass p", "pass p 0", "pass p 0 ", "pass p 0 0 0",
                     "pass p 0 0 ", "pass 0 0", "pass 0 0 p", "pass p  0 0", "way  p 3", "pass p 0,0")

    def test_texts(self):
        self.no_line("judge p", "judge p ", "judge", "judge ", "judge  0 0|", "judge 0 0|", "judge P 0 0|", "judge abcdefghi 0 0|",
                     "judge  p 0 0|", "evening abcdefghi " + P_TEXT, "evening P " + P_TEXT, "evening p1 " + P_TEXT, "evening  " + P_TEXT,
                     "evening p\t" + P_TEXT)

    def test_ahead_of_all_else(self):
        self.no_line("show eve ", "way eve 01", "pass eve 9 09", "evening eve ", "evening Eve owed", "judge eve ", "drop eve eve")


class TestErrors(Checks, unittest.TestCase):
    def refuses(self, desk, error, fields, line):
        """The desk refuses a line, and nothing changes."""
        before = (kept(desk), desk.undoable())
        self.refused(error, fields, desk.tell, line)
        self.assertEqual((kept(desk), desk.undoable()), before)

    def test_bad_evenings(self):
        for desk in (Desk(), desk_with(p=P_TEXT)):
            for text, line in (("x", 1), ("|", 1), ("owed 1", 1), ("owed 1|", 2), ("owed 1|due 1", 2), ("owed 1|due 1| ", 3), (" ", 1),
                               (" owed 1|due 1|", 1), ("owed 1|due 1||", 3), ("owed 1|due 01|", 2), ("owed  1|due 1|", 1),
                               ("owed 1|due 2/2|", 2), ("owed 1 |due 1|", 1), ("owed 1|due 1|\t", 3), ("owed 1\\ndue 1\\n", 1),
                               ("owed 1|due 1|owed 1|", 3), ("||", 1), ("owed 1\r|due 1|", 1), ("owed 1|due 1\u2028", 2)):
                for name in ("p", "new"):
                    self.refuses(desk, BadText, {"line": line}, f"evening {name} {text}")
            # Here the first word of the text is read as the name.
            self.refuses(desk, BadText, {"line": 1}, "evening " + P_TEXT)
            for text, part in (("owed 1|due 2|", "sums"), ("owed" + " 1" * 101 + "|due 101|", "owed"),
                               ("owed 101|due" + " 1" * 101 + "|", "due")):
                for name in ("p", "new"):
                    self.refuses(desk, BadEvening, {"part": part}, f"evening {name} {text}")

    def test_no_name(self):
        lines = [f"{first} eve" for first in BY_NAME]
        lines += ["way eve 3", "pass eve 0 0", "pass eve 999999999 0", "judge eve 0 0|", "judge eve x", "judge eve |"]
        for desk in (Desk(), desk_with(p=P_TEXT), desk_with(even=P_TEXT, evee=Q_TEXT)):
            for line in lines:
                self.refuses(desk, NoName, {"name": "eve"}, line)
        desk = desk_with(eve=P_TEXT)
        desk.tell("drop eve")
        for line in lines:
            self.refuses(desk, NoName, {"name": "eve"}, line)
        self.refuses(desk, NoName, {"name": "abcdefgh"}, "show abcdefgh")

    def test_what_functions_raise(self):
        desk = desk_with(p=P_TEXT, wide=FIFTEEN)
        for line in ("range wide", "parts wide", "alike wide", "way wide 9", "way wide 0", "pass wide 0 0"):
            self.refuses(desk, TooMany, {"most": 14}, line)
        for line in ("pass p 3 0", "pass p 0 3", "pass p 999999999 999999999", "pass wide 8 0", "pass wide 0 7"):
            self.refuses(desk, NoPerson, {}, line)
        for line in ("show wide", "measure wide", "total wide", "surely wide", "judge wide 0 0|"):
            self.assertTrue(desk.tell(line))
        alike = desk_with(alike="owed" + " 1" * 20 + "|due 5 15|")
        self.assertEqual(alike.tell("alike alike"), "yes")
        for text, line in (("0 0", 1), ("|", 1), ("0 0|0 x|", 2), ("0 0|1 1", 2), (" 0 0|", 1), ("0 1234567890|", 1), ("0 5|00 0|", 2),
                           ("none", 1), ("0 0| ", 2), ("0 0||", 2)):
            self.refuses(desk, BadText, {"line": line}, "judge p " + text)

    def test_nothing_done(self):
        for desk in (Desk(), Desk()):
            self.refuses(desk, NothingDone, {}, "undo")
            desk.tell("evening a " + P_TEXT)
            desk.tell("undo")
            self.refuses(desk, NothingDone, {}, "undo")
            self.assertEqual(desk.tell("names"), "none")


class TestUndo(Checks, unittest.TestCase):
    def test_an_elder_one_comes_back(self):
        desk = desk_with(a=P_TEXT)
        desk.tell("evening a " + Q_TEXT)
        self.assertEqual((desk.tell("show a"), desk.undoable()), (Q_TEXT, 2))
        self.assertEqual(desk.tell("undo"), "ok")
        self.assertEqual((desk.tell("show a"), desk.undoable()), (P_TEXT, 1))
        self.assertEqual(desk.tell("undo"), "ok")
        self.assertEqual((desk.tell("names"), desk.undoable()), ("none", 0))

    def test_a_dropped_one_comes_back(self):
        desk = desk_with(a=P_TEXT, b=Q_TEXT)
        desk.tell("drop a")
        desk.tell("evening a " + HALVES)
        desk.tell("drop a")
        desk.tell("drop b")
        self.assertEqual((kept(desk), desk.undoable()), ({}, 6))
        for wanted in ({"b": Q_TEXT}, {"a": HALVES, "b": Q_TEXT}, {"b": Q_TEXT}, {"a": P_TEXT, "b": Q_TEXT}, {"a": P_TEXT}, {}):
            self.assertEqual(desk.tell("undo"), "ok")
            self.assertEqual(kept(desk), wanted)
        self.refused(NothingDone, {}, desk.tell, "undo")

    def test_only_what_was_done(self):
        desk = desk_with(a=P_TEXT, b=Q_TEXT)
        for line in ("show a", "names", "range a", "way a 4", "judge a 0 0|", "surely b", "pass a 0 0"):
            desk.tell(line)
        for line in ("drop c", "evening a x", "evening a owed 1|due 2|", "nothing", "show c"):
            with self.assertRaises(ValueError):
                desk.tell(line)
        self.assertEqual(desk.undoable(), 2)
        desk.tell("undo")
        self.assertEqual(kept(desk), {"a": P_TEXT})
        desk.tell("evening c " + HALVES)
        desk.tell("undo")
        desk.tell("undo")
        self.assertEqual((kept(desk), desk.undoable()), ({}, 0))

    def test_the_same_again(self):
        desk = desk_with(a=P_TEXT)
        desk.tell("evening a " + P_TEXT)
        self.assertEqual(desk.undoable(), 2)
        desk.tell("undo")
        self.assertEqual(kept(desk), {"a": P_TEXT})
        desk.tell("undo")
        self.assertEqual(kept(desk), {})

    def test_against_list_of_states(self):
        chance = random.Random(163)
        texts = [word(evening_text(evening)) for evening in reference.small_evenings(164, 12, 6)]
        desk = Desk()
        states = [{}]
        for _ in range(600):
            self.assertEqual((kept(desk), desk.undoable()), (states[-1], len(states) - 1))
            name = chance.choice("abc")
            kind = chance.choice(["evening", "evening", "drop", "undo"])
            if kind == "evening":
                text = chance.choice(texts)
                self.assertEqual(desk.tell(f"evening {name} {text}"), "ok")
                states.append({**states[-1], name: text})
            elif kind == "drop" and name in states[-1]:
                self.assertEqual(desk.tell("drop " + name), "ok")
                states.append({other: text for other, text in states[-1].items() if other != name})
            elif kind == "undo" and len(states) > 1:
                self.assertEqual(desk.tell("undo"), "ok")
                states.pop()
        self.assertGreater(len(states), 20)

    def test_two_desks(self):
        one = desk_with(a=P_TEXT)
        other = desk_with(a=Q_TEXT, b=P_TEXT)
        one.tell("drop a")
        self.assertEqual((kept(one), kept(other)), ({}, {"a": Q_TEXT, "b": P_TEXT}))
        self.assertEqual((one.undoable(), other.undoable()), (2, 2))
        other.tell("undo")
        self.assertEqual(one.tell("undo"), "ok")
        self.assertEqual((kept(one), kept(other)), ({"a": P_TEXT}, {"a": Q_TEXT}))
        self.assertEqual(Desk().undoable(), 0)

    def test_hundred_people(self):
        text = "owed" + " 1" * 100 + "|due" + " 1" * 100 + "|"
        desk = desk_with(big=text)
        self.assertEqual((desk.tell("show big"), desk.tell("total big"), desk.tell("measure big")), (text, "100", "1"))
        self.assertEqual(desk.tell("alike big"), "yes")
        way = tuple((k, 99 - k) for k in range(100))
        self.assertEqual(desk.tell("judge big " + word(row_text(way))), "way")
        self.assertEqual(desk.tell("surely big"), "none")

    def test_forty_figures(self):
        big = 10 ** 40 - 1
        evening = Evening(((big, big - 1), (1, big)), ((1, big), (big, big - 1)))
        desk = desk_with(big=word(evening_text(evening)))
        self.assertEqual(desk.tell("total big"), amount_text(total(evening)))
        self.assertEqual(desk.tell("measure big"), amount_text(measure(evening)))
        self.assertEqual(desk.tell("range big"), "2 3")


if __name__ == "__main__":
    unittest.main()
