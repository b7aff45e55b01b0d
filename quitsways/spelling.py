"""How names and numbers are spelt."""

LETTERS = "abcdefghijklmnopqrstuvwxyz"
FIGURES = "0123456789"
MOST_LETTERS = 8


def is_name(thing):
    """Whether a thing is a string of 1 to 8 letters a to z."""
    if not isinstance(thing, str) or not 1 <= len(thing) <= MOST_LETTERS:
        return False
    return all([sign in LETTERS for sign in thing])


def is_spelt_number(word, most):
    """Whether a word is a decimal number of at most so many figures, without needless zeros."""
    if not 1 <= len(word) <= most or not all([sign in FIGURES for sign in word]):
        return False
    return word == "0" or word[0] != "0"
