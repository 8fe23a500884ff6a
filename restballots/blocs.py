"""Blocs: how many seats parties have together in possible tables, and what it takes to bring them to more."""

from restballots.arguments import check_bloc, check_night, check_seats
from restballots.possible import possible
from restballots.prices import distance


def seats_in(night, bloc, table):
    """How many seats the bloc has in the table."""
    return sum([own for name, own in zip(night.names, table) if name in bloc])


def seat_range(night, bloc):
    """The fewest and the most seats that the bloc has in possible tables."""
    check_night(night)
    check_bloc(night, bloc)
    held = [seats_in(night, bloc, table) for table in possible(night)]
    return min(held), max(held)


def is_sure(night, bloc, seats):
    """Whether the bloc has at least so many seats in all possible tables."""
    check_night(night)
    check_bloc(night, bloc)
    check_seats(night, seats)
    return seat_range(night, bloc)[0] >= seats


def may_have(night, bloc, seats):
    """Whether the bloc has at least so many seats in some possible table."""
    check_night(night)
    check_bloc(night, bloc)
    check_seats(night, seats)
    return seat_range(night, bloc)[1] >= seats


def margin(night, bloc, seats):
    """The fewest ballots of any kind that give the bloc at least so many seats."""
    check_night(night)
    check_bloc(night, bloc)
    check_seats(night, seats)
    return min([distance(night, table) for table in night.tables() if seats_in(night, bloc, table) >= seats])


def mattering(night, bloc):
    """The indexes of the piles without which the bloc has another range, ascending."""
    usual = seat_range(night, bloc)
    lighter = [night.changed(("size", index, 0)) for index in range(len(night.piles))]
    return tuple([index for index, other in enumerate(lighter) if seat_range(other, bloc) != usual])


def seatless(night):
    """The names of the parties that have no seat in any possible table, in their order."""
    tables = possible(night)
    return tuple([name for index, name in enumerate(night.names) if all([table[index] == 0 for table in tables])])
