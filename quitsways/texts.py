"""Evenings and rows as texts."""

CHUNK_FIGURES = 60
CHUNK = 10 ** 60


def evening_text(evening):
    """The text of an evening: a line of what is owed, a line of what is due."""
    return _side_text("owed", evening.owed) + _side_text("due", evening.due)


def _side_text(word, amounts):
    """The line of one side's amounts."""
    return " ".join([word] + [amount_text(amount) for amount in amounts]) + "\n"


def amount_text(amount):
    """An amount, as it is written."""
    top, bottom = amount
    return _figures(top) if bottom == 1 else _figures(top) + "/" + _figures(bottom)


def _figures(number):
    """The decimal figures of an integer from 0 on."""
    # Python refuses to write an integer of some thousands of figures at once, and a returned evening may have such.
    chunks = []
    left = number
    while left >= CHUNK:
        left, chunk = divmod(left, CHUNK)
        chunks.append(str(chunk).zfill(CHUNK_FIGURES))
    chunks.append(str(left))
    return "".join(chunks[::-1])


def row_text(row):
    """The text of a row: a line for each pair."""
    return "".join([str(ower) + " " + str(taker) + "\n" for ower, taker in row])
