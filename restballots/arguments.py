"""Looks at what calls are passed, and raises the error that is due."""

from restballots.errors import InvalidBloc, InvalidNumber, InvalidTable, NotANight
from restballots.kinds import is_between, is_bloc, is_table
from restballots.nights import Night


def check_night(night):
    """Raises an error for what is no night."""
    if not isinstance(night, Night):
        raise NotANight(night)


def check_table(night, table):
    """Raises an error for what is no table of the night."""
    if not is_table(table, len(night), night.seats):
        raise InvalidTable(table)


def check_bloc(night, bloc):
    """Raises an error for what is no bloc of the night."""
    if not is_bloc(bloc, night.names):
        raise InvalidBloc(bloc)


def check_seats(night, seats):
    """Raises an error for what is no integer from 0 to the number of seats."""
    if not is_between(seats, 0, night.seats):
        raise InvalidNumber(seats)
