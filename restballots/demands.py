"""Demands on nights: what they are, on a night or on any night at all, and whether they hold."""

from restballots.blocs import is_sure, margin, may_have
from restballots.errors import InvalidText
from restballots.kinds import is_between, is_bloc, is_name, is_row, is_table, is_tuple_of
from restballots.limits import MOST_FAR, MOST_PARTIES, MOST_SEATS
from restballots.nights import Night
from restballots.possible import is_possible, possible


def night_in(text):
    """The night with this text, None for what is no text of a night."""
    try:
        return Night.read(text)
    except InvalidText:
        return None


def are_of_one_kind(one, other):
    """Whether two nights have the same number of seats, and the same names in the same order."""
    return one.seats == other.seats and one.names == other.names


def is_worded(demand):
    """Whether the value is a tuple of a string and something more."""
    return isinstance(demand, tuple) and len(demand) > 1 and isinstance(demand[0], str)


def is_on_bloc(demand, seats):
    """Whether the demand has a form with a bloc, on a night with so many seats; its bloc can be any value."""
    if demand[0] in ("sure", "may"):
        return len(demand) == 3 and is_between(demand[2], 0, seats)
    if demand[0] == "far":
        return len(demand) == 4 and is_between(demand[2], 0, seats) and is_between(demand[3], 0, MOST_FAR)
    return False


def is_demand(night, demand):
    """Whether the value is a demand on this night."""
    if not is_worded(demand):
        return False
    if demand[0] == "can":
        return len(demand) == 2 and is_table(demand[1], len(night), night.seats)
    if demand[0] == "like":
        other = night_in(demand[1])
        return len(demand) == 2 and other is not None and are_of_one_kind(night, other)
    return is_on_bloc(demand, night.seats) and is_bloc(demand[1], night.names)


def is_some_table(value):
    """Whether the value is a table of some night."""
    if not isinstance(value, tuple) or not 1 <= len(value) <= MOST_PARTIES:
        return False
    return is_row(value, len(value)) and 1 <= sum(value) <= MOST_SEATS


def is_some_bloc(value):
    """Whether the value is a bloc of some night."""
    if not isinstance(value, tuple) or len(value) > MOST_PARTIES:
        return False
    return all([is_name(item) for item in value]) and is_bloc(value, value)


def is_some_demand(demand):
    """Whether the value is a demand on some night."""
    if not is_worded(demand):
        return False
    if demand[0] == "can":
        return is_tuple_of(demand, 2) and is_some_table(demand[1])
    if demand[0] == "like":
        return is_tuple_of(demand, 2) and night_in(demand[1]) is not None
    return is_on_bloc(demand, MOST_SEATS) and is_some_bloc(demand[1])


def have_the_same_possible(one, other):
    """Whether two nights have the same possible tables."""
    return possible(one) == possible(other)


def is_met(night, demand):
    """Whether a demand on this night holds."""
    word = demand[0]
    if word == "can":
        return is_possible(night, demand[1])
    if word == "sure":
        return is_sure(night, demand[1], demand[2])
    if word == "may":
        return may_have(night, demand[1], demand[2])
    if word == "far":
        return margin(night, demand[1], demand[2]) >= demand[3]
    return have_the_same_possible(night, Night.read(demand[1]))
