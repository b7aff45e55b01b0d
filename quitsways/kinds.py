"""What a stranger's thing is: integers, numbers of people, lots."""


def is_integer(thing):
    """Whether a thing is an int and no flag."""
    return isinstance(thing, int) and not isinstance(thing, bool)


def is_number_below(thing, many):
    """Whether a thing is an integer from 0 on, below this one."""
    return is_integer(thing) and 0 <= thing < many


def is_ascending(items):
    """Whether each of the items is above the one ahead of it."""
    return all([items[k] < items[k + 1] for k in range(len(items) - 1)])


def is_lot(thing, many):
    """Whether a thing is a lot of numbers below this one."""
    if not isinstance(thing, tuple):
        return False
    # What is no number may not be compared: all are looked at before their order is.
    return all([is_number_below(number, many) for number in thing]) and is_ascending(thing)


def is_two_people(thing, owers, takers):
    """Whether a thing is a pair of an ower's number and a taker's, of so many owers and takers."""
    if not isinstance(thing, tuple) or len(thing) != 2:
        return False
    return is_number_below(thing[0], owers) and is_number_below(thing[1], takers)


def is_pairs(thing, owers, takers):
    """Whether a thing is an ascending tuple of unlike pairs of people, of so many owers and takers."""
    if not isinstance(thing, tuple):
        return False
    return all([is_two_people(pair, owers, takers) for pair in thing]) and is_ascending(thing)


def is_table(thing, owers, takers):
    """Whether a thing is a tuple with a tuple for each of so many owers, with something for each of so many takers."""
    if not isinstance(thing, tuple) or len(thing) != owers:
        return False
    return all([isinstance(row, tuple) and len(row) == takers for row in thing])
