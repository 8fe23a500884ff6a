"""Looks at what calls are passed, and raises the error that is due."""

from restballots.errors import InvalidBloc, InvalidNumber, InvalidTable, NotANight, OtherSeats
from restballots.kinds import is_between, is_bloc, is_table
from restballots.limits import MOST_PARTIES
from restballots.nights import Night
from restballots.parts import check_divisors


def check_night(night):
    """Raises an error for what is no night."""
    if not isinstance(night, Night):
        raise NotANight(night)


def check_table(night, table):
    """Raises an error for what is no table of the night."""
    if not is_table(table, len(night), night.seats):
        raise InvalidTable(table)


def check_bloc(night, bloc):
    """Raises an error for what is no bloc of the night."""
    if not is_bloc(bloc, night.names):
        raise InvalidBloc(bloc)


def check_seats(night, seats):
    """Raises an error for what is no integer from 0 to the number of seats."""
    if not is_between(seats, 0, night.seats):
        raise InvalidNumber(seats)


def check_same_seats(one, other):
    """Raises an error for a second row of divisors that is not as long as the first one."""
    if len(one) != len(other):
        raise OtherSeats(other)


def check_rules(one, other, many):
    """Raises an error for what is not two rows of divisors for as many seats, and a number of parties."""
    check_divisors(one)
    check_divisors(other)
    if not is_between(many, 2, MOST_PARTIES):
        raise InvalidNumber(many)
    check_same_seats(one, other)
