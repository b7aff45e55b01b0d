"""Evenings and rows read from texts."""

from quitsways.amounts import is_amount
from quitsways.errors import BadText, NoRow
from quitsways.evenings import Evening
from quitsways.spelling import is_spelt_number
from quitsways.ways import is_row

SIDES = ("owed", "due")
AMOUNT_FIGURES = 40
PERSON_FIGURES = 9


def _parted(text):
    """The lines of a text, and behind them what stands behind its last line feed."""
    if not isinstance(text, str):
        raise BadText(0)
    return text.split("\n")


def read_evening(text):
    """The evening of a text."""
    parted = _parted(text)
    sides = []
    for place, line in enumerate(parted[:-1]):
        side = _read_side(line, SIDES[place]) if place < len(SIDES) else None
        if side is None:
            raise BadText(place + 1)
        sides.append(side)
    if len(sides) < len(SIDES) or parted[-1] != "":
        raise BadText(len(parted))
    owed, due = sides
    return Evening(owed, due)


def _read_side(line, word):
    """The tuple of the amounts of a line with this word ahead of them, or None."""
    words = line.split(" ")
    amounts = [_read_amount(each) for each in words[1:]]
    # No evening, however it came about, has a side without amounts: so no text of one has such a line.
    if words[0] != word or not amounts or None in amounts:
        return None
    return tuple(amounts)


def _read_amount(word):
    """The amount that is written so, or None."""
    top, slash, bottom = word.partition("/")
    if not is_spelt_number(top, AMOUNT_FIGURES):
        return None
    if slash == "":
        amount = (int(top), 1)
    elif is_spelt_number(bottom, AMOUNT_FIGURES) and bottom != "1":
        amount = (int(top), int(bottom))
    else:
        return None
    return amount if is_amount(amount) else None


def read_pairs(text):
    """The tuple of the pairs of a text, whether they are a row or not."""
    parted = _parted(text)
    pairs = []
    for place, line in enumerate(parted[:-1]):
        words = line.split(" ")
        if len(words) != 2 or not all([is_spelt_number(word, PERSON_FIGURES) for word in words]):
            raise BadText(place + 1)
        pairs.append((int(words[0]), int(words[1])))
    if parted[-1] != "":
        raise BadText(len(parted))
    return tuple(pairs)


def read_row(evening, text):
    """The row of a text."""
    row = read_pairs(text)
    if not is_row(evening, row):
        raise NoRow()
    return row
