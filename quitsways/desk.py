"""A desk that keeps evenings under names, and works by lines."""

from quitsways.alike import is_alike
from quitsways.errors import NoLine, NoName, NothingDone
from quitsways.evenings import measure, total
from quitsways.numbers import fewest, greatest, way_of
from quitsways.pairs import passing, surely
from quitsways.parts import most_parts
from quitsways.reading import PERSON_FIGURES, read_evening, read_pairs
from quitsways.spelling import is_name, is_spelt_number
from quitsways.texts import amount_text, evening_text, row_text
from quitsways.ways import is_row, is_way

LINE_FEED = "\n"
SIGN_FOR_LINE_FEED = "|"
# What stands behind the first word of each line.
FORMS = {
    "evening": ("name", "text"),
    "drop": ("name",),
    "names": (),
    "show": ("name",),
    "range": ("name",),
    "way": ("name", "number"),
    "parts": ("name",),
    "alike": ("name",),
    "measure": ("name",),
    "total": ("name",),
    "pass": ("name", "number", "number"),
    "judge": ("name", "text"),
    "surely": ("name",),
    "undo": (),
}


def _words_of(line):
    """The words of a line, the first of which tells the form of the others; a text is one word."""
    if not isinstance(line, str) or LINE_FEED in line:
        raise NoLine()
    first = line.split(" ")[0]
    if first not in FORMS:
        raise NoLine()
    kinds = FORMS[first]
    # The last word has all that is left, so that a blank too many spoils it, unless it is a text.
    words = line.split(" ", len(kinds))
    if words[0] != first or len(words) != len(kinds) + 1:
        raise NoLine()
    if not all([_is_of_kind(word, kind) for word, kind in zip(words[1:], kinds)]):
        raise NoLine()
    return words


def _is_of_kind(word, kind):
    """Whether a word can stand for a name, a number or a text."""
    if kind == "name":
        return is_name(word)
    if kind == "number":
        return is_spelt_number(word, PERSON_FIGURES)
    return word != ""


def _text_of(word):
    """The text that a word of a line stands for."""
    return word.replace(SIGN_FOR_LINE_FEED, LINE_FEED)


def _word_of(text):
    """The word of a line that stands for a text."""
    return text.replace(LINE_FEED, SIGN_FOR_LINE_FEED)


def _show(evening, _):
    """The text of the evening."""
    return _word_of(evening_text(evening))


def _range(evening, _):
    """The fewest and the most payments."""
    return str(fewest(evening)) + " " + str(greatest(evening))


def _way(evening, words):
    """A way of so many payments."""
    way = way_of(evening, int(words[0]))
    return "none" if way is None else _word_of(row_text(way))


def _parts(evening, _):
    """The number of the most parts."""
    return str(most_parts(evening))


def _alike(evening, _):
    """Whether all ways have equally many payments."""
    return "yes" if is_alike(evening) else "no"


def _measure(evening, _):
    """The measure."""
    return amount_text(measure(evening))


def _total(evening, _):
    """The total."""
    return amount_text(total(evening))


def _pass(evening, words):
    """The amounts that can pass between an ower and a taker."""
    return " ".join([amount_text(amount) for amount in passing(evening, int(words[0]), int(words[1]))])


def _judge(evening, words):
    """Whether a text is that of a way, of another row, or of none."""
    row = read_pairs(_text_of(words[0]))
    if is_way(evening, row):
        return "way"
    return "row" if is_row(evening, row) else "none"


def _surely(evening, _):
    """The pairs that pay one another in every way."""
    return " ".join([str(ower) + "," + str(taker) for ower, taker in surely(evening)]) or "none"


ANSWERS = {
    "show": _show,
    "range": _range,
    "way": _way,
    "parts": _parts,
    "alike": _alike,
    "measure": _measure,
    "total": _total,
    "pass": _pass,
    "judge": _judge,
    "surely": _surely,
}


class Desk:
    """Evenings under names, and what was done to them, which can be taken back."""

    def __init__(self):
        self._evenings = {}
        # For each line that can be taken back the name, and the evening that was there ahead of it, or None.
        self._done = []

    def tell(self, line):
        """Do what a line says, and give the answer."""
        words = _words_of(line)
        if words[0] == "names":
            return " ".join(sorted(self._evenings)) or "none"
        if words[0] == "undo":
            return self._undo()
        if words[0] == "evening":
            return self._keep(words[1], read_evening(_text_of(words[2])))
        if words[1] not in self._evenings:
            raise NoName(words[1])
        if words[0] == "drop":
            return self._drop(words[1])
        answer = ANSWERS[words[0]]
        return answer(self._evenings[words[1]], words[2:])

    def undoable(self):
        """How many lines can be taken back."""
        return len(self._done)

    def _keep(self, name, evening):
        """Keep an evening under a name."""
        self._done.append((name, self._evenings.get(name)))
        self._evenings[name] = evening
        return "ok"

    def _drop(self, name):
        """Forget the evening with a name."""
        self._done.append((name, self._evenings[name]))
        del self._evenings[name]
        return "ok"

    def _undo(self):
        """Put back what was there ahead of the last line that is not taken back."""
        if not self._done:
            raise NothingDone()
        name, elder = self._done.pop()
        if elder is None:
            del self._evenings[name]
        else:
            self._evenings[name] = elder
        return "ok"
