"""How many people an evening may have where something is asked that takes long."""

from quitsways.errors import TooMany
from quitsways.evenings import people

MOST_PARTED = 14
MOST_LADDERED = 9
MOST_COUNTED = 8


def check_people(evening, most):
    """Refuse an evening of more people than this."""
    if people(evening) > most:
        raise TooMany(most)
