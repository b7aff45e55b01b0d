"""15.1: texts of evenings and rows, and reading them."""

import random
import re
import unittest
from fractions import Fraction
from math import gcd

from quitsways.errors import BadEvening, BadText, NoRow
from quitsways.evenings import Evening, joined, scaled, total
from quitsways.reading import read_evening, read_row
from quitsways.texts import amount_text, evening_text, row_text
from tests import reference
from tests.strangers import Checks, strangers

ONE = (1, 1)
TWO = (2, 1)
P = Evening((TWO, ONE, ONE), (TWO, ONE, ONE))
Q = Evening((ONE, (3, 1)), (TWO, TWO))
BROKEN = Evening(((1, 2), (5, 3)), ((2, 3), (3, 2)))
WIDE = Evening((ONE,) * 100, (ONE,) * 100)
BIG = 10 ** 40 - 1
TEXT = "owed 1/2 5/3\ndue 2/3 3/2\n"
# What is no blank, no line feed and no figure, though Python takes some of it for one.
ODD_SIGNS = ["\t", "\r", "\x0b", "\x0c", "\x1c", "\x1d", "\x1e", "\x1f", "\x00", "\x85", "\u2028", "\u2029", "\u00a0", "\u2003",
             "\u3000", "_", "+", "-", ".", ",", "e", "|", "\u0661", "\uff11", "\u00b2", "\u2460", "\u00bd", "\ufeff", "\u200b"]
AMOUNT = re.compile(r"(0|[1-9][0-9]{0,39})(?:/(0|[1-9][0-9]{0,39}))?")


def is_amount_word(word):
    """Whether a word is an amount as it is written."""
    found = AMOUNT.fullmatch(word)
    if found is None or found[1] == "0":
        return False
    return found[2] is None or (int(found[2]) > 1 and gcd(int(found[1]), int(found[2])) == 1)


def is_line(line, place):
    """Whether a line can stand at this place of an evening's text."""
    words = line.split(" ")
    if place > 1 or words[0] != ("owed", "due")[place] or len(words) < 2:
        return False
    return all(is_amount_word(word) for word in words[1:])


def bad_line(text):
    """The line that BadText names of an evening's text, or None if it is of its form."""
    *lines, behind = text.split("\n")
    for place, line in enumerate(lines):
        if not is_line(line, place):
            return place + 1
    return len(lines) + 1 if len(lines) < 2 or behind else None


class TestTexts(Checks, unittest.TestCase):
    def test_some(self):
        self.assertEqual(evening_text(Q), "owed 1 3\ndue 2 2\n")
        self.assertEqual(evening_text(BROKEN), TEXT)
        self.assertEqual(evening_text(Evening(((4, 1),), ((1, 3), (11, 3)))), "owed 4\ndue 1/3 11/3\n")
        self.assertEqual((amount_text((12, 1)), amount_text((1, 12)), amount_text((100, 7))), ("12", "1/12", "100/7"))

    def test_against_reference(self):
        for evening in reference.small_evenings(150, 80, 12):
            owed, due = reference.start(evening)
            words = [["owed"] + [str(each) for each in owed], ["due"] + [str(each) for each in due]]
            self.assertEqual(evening_text(evening), "".join(" ".join(line) + "\n" for line in words))

    def test_rows(self):
        self.assertEqual(row_text(()), "")
        self.assertEqual(row_text(((0, 1), (1, 0))), "0 1\n1 0\n")
        self.assertEqual(row_text(((0, 0), (0, 0), (12, 345), (10 ** 39, BIG))), f"0 0\n0 0\n12 345\n{10 ** 39} {BIG}\n")
        self.assertEqual(row_text(tuple((k, 10 * k) for k in range(300))), "".join(f"{k} {10 * k}\n" for k in range(300)))

    def test_many_figures(self):
        evening = Evening(((BIG, 1), (1, BIG)), ((1, BIG), (BIG, 1)))
        self.assertEqual(evening_text(evening), f"owed {BIG} 1/{BIG}\ndue 1/{BIG} {BIG}\n")
        for power in (59, 60, 61, 119, 120, 121, 180, 1000):
            for number in (10 ** power, 10 ** power - 1, 10 ** power + 1, 7 * 10 ** power):
                self.assertEqual(amount_text((number, 1)), str(number))
                self.assertEqual(amount_text((1, number)), "1/" + str(number))

    def test_more_figures_than_python_writes(self):
        evening = Evening((ONE,), (ONE,))
        for _ in range(200):
            evening = scaled(evening, (BIG, 10 ** 39))
        top, bottom = total(evening)
        text = evening_text(evening)
        found = re.fullmatch("owed ([0-9]+)/([0-9]+)\ndue ([0-9]+)/([0-9]+)\n", text)
        self.assertEqual(found[2], "1" + "0" * 7800)
        self.assertEqual((found[3], found[4]), (found[1], found[2]))
        value = 0
        for start in range(0, len(found[1]), 1000):
            chunk = found[1][start:start + 1000]
            value = value * 10 ** len(chunk) + int(chunk)
        self.assertEqual((value, bottom), (top, 10 ** 7800))
        self.refused(BadText, {"line": 1}, read_evening, text)

    def test_many_people(self):
        self.assertEqual(evening_text(WIDE), "owed" + " 1" * 100 + "\ndue" + " 1" * 100 + "\n")
        wider = joined(WIDE, P)
        self.assertEqual(evening_text(wider), "owed" + " 1" * 100 + " 2 1 1\ndue" + " 1" * 100 + " 2 1 1\n")
        self.refused(BadEvening, {"part": "owed"}, read_evening, evening_text(wider))

    def test_asked_again(self):
        self.unchanged(evening_text, P)
        self.unchanged(row_text, ((0, 1),))
        self.assertEqual(read_evening(TEXT), read_evening(TEXT))
        self.unchanged(read_row, P, "0 0\n")


class TestReadEvening(Checks, unittest.TestCase):
    def test_read_back(self):
        for evening in [P, Q, BROKEN, WIDE, Evening(((BIG, 1), (1, BIG)), ((1, BIG), (BIG, 1)))] \
                + reference.small_evenings(151, 80, 12):
            made = read_evening(evening_text(evening))
            self.assertIs(type(made), Evening)
            self.assertEqual(made, evening)
            self.plain((made.owed, made.due))

    def bad(self, text, line):
        """The text is bad, and this is the line that is named."""
        self.refused(BadText, {"line": line}, read_evening, text)

    def test_no_string(self):
        for thing in strangers():
            if not isinstance(thing, str):
                self.bad(thing, 0)
                self.refused(BadText, {"line": 0}, read_row, P, thing)
        for thing in (TEXT.encode(), [TEXT], (TEXT,), TEXT.split("\n")):
            self.bad(thing, 0)

    def test_strings(self):
        for thing in strangers():
            if isinstance(thing, str):
                self.bad(thing, 1)

    def test_lines(self):
        for text, line in (("", 1), ("\n", 1), ("owed 1", 1), ("owed 1\n", 2), ("owed 1\ndue 1", 2), ("owed 1\ndue 1\n\n", 3),
                           ("owed 1\ndue 1\nowed 1\n", 3), ("owed 1\ndue 1\n ", 3), ("owed 1\ndue 1\ndue 1", 3),
                           ("due 1\nowed 1\n", 1), ("owed 1\nowed 1\n", 2), ("due 1\ndue 1\n", 1), ("due 1\n", 1),
                           ("owed 1\n\ndue 1\n", 2), ("\nowed 1\ndue 1\n", 1), ("owed 1\ndue 1\n\n\n", 3),
                           ("owed 1\ndue 1\nx\ny\nz", 3), ("owed 1\nx\ny", 2), ("x", 1), ("owed 1\nx", 2), ("owed x\nx", 1),
                           ("owed 1\ndue 1\n\nx", 3), ("owed\ndue 1\n", 1), ("owed 1\ndue\n", 2), ("owed\ndue\n", 1), ("owed", 1), ("owed 1\ndue x\nx\n", 2), ("\n\n", 1), ("owed 1\n\n", 2), ("due", 1)):
            self.bad(text, line)
            self.assertEqual(bad_line(text), line)

    def test_spoilt_words(self):
        words = ["", "01", "00", "0", "+1", "-1", "1.", "1.0", "1e1", "1_0", "0x1", " 1", "1 ", "\t1", "2/2", "2/4", "6/3", "1/1",
                 "7/1", "1/0", "0/1", "0/2", "0/0", "/2", "1/", "/", "1//2", "1/2/3", "01/2", "1/02", "1/-2", "-1/2", "+1/2", "1 /2",
                 "1/ 2", "1" + "0" * 40, "1/1" + "0" * 40, "1" * 41, "0" * 40 + "1", "owed", "due", "one", "\u0661", "\uff11",
                 "\u00b2", "\u00bd", "1\u0661", "1/\u0662", "1\n", "|", "1,", "None", "True", "9" * 5000, "9" * 5000 + "/2"]
        for word in words:
            self.assertFalse(is_amount_word(word) and "\n" not in word)
            if "\n" not in word:
                for text, line in ((f"owed {word}\ndue 1\n", 1), (f"owed 1 {word}\ndue 1\n", 1), (f"owed {word} 1\ndue 1\n", 1),
                                   (f"owed 1\ndue {word}\n", 2), (f"owed 1\ndue 1 {word}\n", 2), (f"owed 1 {word}\ndue x\n", 1),
                                   (f"{word} 1\ndue 1\n", None if word == "owed" else 1)):
                    if line is not None:
                        self.bad(text, line)
                        self.assertEqual(bad_line(text), line)
        for word in ("Owed", "OWED", "owe", "oweds", "due", "", " owed", "owed ", "owed:", "0wed"):
            self.bad(f"{word} 1\ndue 1\n", 1)
        for word in ("Due", "owed", "du", "dues", "", " due", "due ", "due:"):
            self.bad(f"owed 1\n{word} 1\n", 2)
        self.bad("owed1\ndue 1\n", 1)
        self.bad("owed 1\ndue1\n", 2)

    def test_each_place_spoilt(self):
        for place in range(len(TEXT) + 1):
            for sign in ["", " ", "\n", "0", "1", "/", "a", "o"] + ODD_SIGNS:
                for text in (TEXT[:place] + sign + TEXT[place:], TEXT[:place] + sign + TEXT[place + 1:],
                             TEXT[:place] + sign + sign + TEXT[place + 1:]):
                    line = bad_line(text)
                    if line is not None:
                        self.bad(text, line)
                    elif text == TEXT:
                        self.assertEqual(read_evening(text), BROKEN)
                    else:
                        self.bad_or_read(text)

    def bad_or_read(self, text):
        """A text of the right form is read, or its evening is bad."""
        owed, due = [tuple(reference.amount(Fraction(word)) for word in line.split(" ")[1:]) for line in text.split("\n")[:2]]
        try:
            wanted = Evening(owed, due)
        except BadEvening as error:
            self.refused(BadEvening, {"part": error.part}, read_evening, text)
        else:
            self.assertEqual(read_evening(text), wanted)

    def test_words_and_lines_spoilt(self):
        chance = random.Random(152)
        for evening in [P, Q, BROKEN] + reference.small_evenings(152, 40, 8):
            lines = evening_text(evening).split("\n")[:2]
            spoilt = [lines[:1], lines[1:], lines[::-1], lines + lines[:1], lines + lines[1:], lines[:1] * 2, lines[1:] * 2,
                      lines[:1] + [""] + lines[1:], lines + [""], [""] + lines, []]
            for place in range(2):
                words = lines[place].split(" ")
                for k in range(len(words)):
                    for changed in (words[:k] + words[k + 1:], words[:k + 1] + words[k:], words[:k] + [""] + words[k:],
                                    words[:k] + ["x"] + words[k + 1:], words[:k] + ["0" + words[k]] + words[k + 1:],
                                    words[k:] + words[:k], words + [""], [""] + words):
                        spoilt.append(lines[:place] + [" ".join(changed)] + lines[place + 1:])
            for changed in spoilt:
                text = "".join(line + "\n" for line in changed)
                for each in (text, text[:-1], text + chance.choice([" ", "x", "\n", "owed 1"])):
                    line = bad_line(each)
                    if line is None:
                        self.bad_or_read(each)
                    else:
                        self.bad(each, line)

    def test_other_line_ends(self):
        for end in ODD_SIGNS[1:12] + ["\r\n"]:
            self.bad(f"owed 1{end}due 1{end}", 1)
            self.bad(f"owed 1{end}\ndue 1\n", 1)
            self.bad(f"owed 1\ndue 1{end}\n", 2)
            self.bad(f"owed 1\ndue 1\n{end}", 3)
            self.bad(f"owed 1\n{end}due 1\n", 2)
            self.bad(f"owed{end}1\ndue 1\n", 1)

    def test_then_bad_evening(self):
        for text, part in (("owed 1\ndue 2\n", "sums"), ("owed 1/2 1/3\ndue 2/5\n", "sums"),
                           ("owed" + " 1" * 101 + "\ndue 101\n", "owed"), ("owed 101\ndue" + " 1" * 101 + "\n", "due"),
                           ("owed" + " 1" * 101 + "\ndue" + " 1" * 102 + "\n", "owed"), (f"owed {BIG}\ndue 1\n", "sums")):
            self.refused(BadEvening, {"part": part}, read_evening, text)
        self.bad("owed 1\ndue 2\n ", 3)
        self.bad("owed 1\ndue 2\nx\n", 3)
        self.bad("owed" + " 1" * 101 + "\ndue 01\n", 2)
        self.assertEqual(len(read_evening("owed" + " 1" * 100 + "\ndue 100\n").owed), 100)

    def test_forty_figures(self):
        self.assertEqual(read_evening(f"owed {BIG}\ndue {BIG - 1} 1\n").owed, ((BIG, 1),))
        self.assertEqual(read_evening(f"owed 1/{BIG}\ndue 1/{BIG}\n").due, ((1, BIG),))
        self.assertEqual(read_evening(f"owed {BIG}/{BIG - 1}\ndue 1 1/{BIG - 1}\n").owed, ((BIG, BIG - 1),))
        self.bad(f"owed {BIG + 1}\ndue {BIG} 1\n", 1)
        self.bad(f"owed 1 {BIG}\ndue {BIG + 1}\n", 2)
        self.bad(f"owed 1/{BIG + 1}\ndue 1/{BIG + 1}\n", 1)


class TestReadRow(Checks, unittest.TestCase):
    def bad(self, text, line):
        """The text is bad, and this is the line that is named."""
        self.refused(BadText, {"line": line}, read_row, P, text)

    def test_read_back(self):
        chance = random.Random(153)
        self.assertEqual(read_row(P, ""), ())
        for evening in [P, Q, WIDE, joined(WIDE, P)] + reference.small_evenings(153, 60, 9):
            way = reference.drawn_way(chance, evening)
            for place in (0, 1, len(way) // 2, len(way)):
                row = read_row(evening, row_text(way[:place]))
                self.assertEqual(row, way[:place])
                self.plain(row)

    def test_spoilt_lines(self):
        for text, line in (("\n", 1), ("0 0", 1), ("0 0\n1 1", 2), ("0 0\n\n", 2), ("0 0\n\n1 1\n", 2), ("0 0\n ", 2), (" ", 1),
                           ("0\n", 1), ("0 0 0\n", 1), ("0 0 \n", 1), (" 0 0\n", 1), ("0  0\n", 1), ("0 0\n1\n2 2\n", 2),
                           ("00 0\n", 1), ("0 00\n", 1), ("01 1\n", 1), ("1 01\n", 1), ("+0 0\n", 1), ("0 -0\n", 1), ("0,0\n", 1),
                           ("0\t0\n", 1), ("0 0\r\n", 1), ("0 0\r1 1\n", 1), ("0 x\n", 1), ("x 0\n0 x\n", 1), ("0 0\n0 0\nx", 3),
                           ("0 0\n1 x\nx", 2), ("0 0\n1 1\n\n", 3), ("0 1/2\n", 1), ("0 1.0\n", 1), ("(0, 0)\n", 1), ("\n0 0\n", 1),
                           ("\u0661 0\n", 1), ("0 \uff11\n", 1), ("0 \u00b2\n", 1), ("0 0\u2028", 1), ("0 0\x0b1 1\n", 1),
                           ("0\u00a00\n", 1), ("1234567890 0\n", 1), ("0 1234567890\n", 1), ("0 0\n0 0000000000\n", 2),
                           ("0 0\n0 0\n9999999999 0\n", 3), ("9" * 5000 + " 0\n", 1)):
            self.bad(text, line)

    def test_each_place_spoilt(self):
        text = "0 1\n1 0\n"
        form = re.compile("(0|[1-9][0-9]{0,8}) (0|[1-9][0-9]{0,8})")
        for place in range(len(text) + 1):
            for sign in ["", " ", "\n", "0", "1", "2", "3"] + ODD_SIGNS:
                for changed in (text[:place] + sign + text[place:], text[:place] + sign + text[place + 1:]):
                    *lines, behind = changed.split("\n")
                    bad = [number for number, line in enumerate(lines, 1) if not form.fullmatch(line)]
                    if behind:
                        bad.append(len(lines) + 1)
                    if bad:
                        self.bad(changed, bad[0])
                        continue
                    row = tuple(tuple(int(word) for word in line.split(" ")) for line in lines)
                    if max(max(pair, default=0) for pair in row + ((0,),)) < 3 and reference.play(P, row) is not None:
                        self.assertEqual(read_row(P, changed), row)
                    else:
                        self.refused(NoRow, {}, read_row, P, changed)

    def test_then_no_row(self):
        for text in ("0 3\n", "3 0\n", "0 0\n0 0\n", "0 0\n0 1\n", "999999999 0\n", "0 999999999\n", "123456789 987654321\n",
                     "0 0\n1 0\n", "0 0\n1 1\n2 2\n0 0\n"):
            self.refused(NoRow, {}, read_row, P, text)
        self.bad("0 3\n0 x\n", 2)
        self.bad("0 3\n0 0", 2)


if __name__ == "__main__":
    unittest.main()
