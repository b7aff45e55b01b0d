"""Refusing what is no person of an evening."""

from quitsways.errors import NoPerson
from quitsways.kinds import is_number_below


def check_ower(evening, thing):
    """Refuse what is no ower."""
    if not is_number_below(thing, len(evening.owed)):
        raise NoPerson()


def check_two(evening, ower, taker):
    """Refuse what is no ower, then what is no taker."""
    check_ower(evening, ower)
    if not is_number_below(taker, len(evening.due)):
        raise NoPerson()
