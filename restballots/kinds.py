"""Tells whether values of any kind are the integers, names and tuples that nights are made of."""

from restballots.limits import MOST_COUNT, MOST_DIVISOR, MOST_SEATS

MOST_LETTERS = 8
LETTERS = "abcdefghijklmnopqrstuvwxyz"
LETTERS_AND_DIGITS = "abcdefghijklmnopqrstuvwxyz0123456789"


def is_integer(value):
    """Whether the value is an integer other than True and False."""
    return isinstance(value, int) and not isinstance(value, bool)


def is_between(value, least, most):
    """Whether the value is an integer within these bounds."""
    return is_integer(value) and least <= value <= most


def is_index(value, many):
    """Whether the value is an index of so many things."""
    return is_integer(value) and 0 <= value < many


def is_tuple_of(value, many):
    """Whether the value is a tuple with so many elements."""
    return isinstance(value, tuple) and len(value) == many


def is_name(value):
    """Whether the value is a name."""
    if not isinstance(value, str) or not 1 <= len(value) <= MOST_LETTERS:
        return False
    return value[0] in LETTERS and all([sign in LETTERS_AND_DIGITS for sign in value])


def is_divisors(value):
    """Whether the value is a row of divisors."""
    if not isinstance(value, tuple) or not 1 <= len(value) <= MOST_SEATS:
        return False
    if not all([is_between(item, 1, MOST_DIVISOR) for item in value]):
        return False
    return all([low < high for low, high in zip(value, value[1:])])


def is_party(value):
    """Whether the value is a pair of a name and a count."""
    return is_tuple_of(value, 2) and is_name(value[0]) and is_between(value[1], 0, MOST_COUNT)


def is_group(value, names):
    """Whether the value is a tuple of one or more of these names, in their order and each once."""
    if not isinstance(value, tuple) or len(value) == 0:
        return False
    # Only strings are compared: a foreign object could call itself equal to a name.
    if not all([isinstance(item, str) for item in value]):
        return False
    return list(value) == [name for name in names if name in value]


def is_pile(value, names):
    """Whether the value is a pile for parties with these names."""
    return is_tuple_of(value, 2) and is_between(value[0], 0, MOST_COUNT) and is_group(value[1], names)


def is_row(value, many):
    """Whether the value is a tuple of so many integers from 0 on."""
    return is_tuple_of(value, many) and all([is_integer(item) and item >= 0 for item in value])


def is_outcome(value, pile):
    """Whether the value is ballots that can come out of this pile."""
    size, names = pile
    return is_row(value, len(names)) and sum(value) <= size


def is_table(value, many, seats):
    """Whether the value is a table of so many seats for so many parties."""
    return is_row(value, many) and sum(value) == seats


def is_bloc(value, names):
    """Whether the value is an ascending tuple of one or more of these names."""
    if not isinstance(value, tuple) or len(value) == 0:
        return False
    # Only strings are compared: a foreign object could call itself equal to a name.
    if not all([isinstance(item, str) and item in names for item in value]):
        return False
    return all([low < high for low, high in zip(value, value[1:])])
