"""Blocs: how many seats parties have together in possible tables, and what it takes to bring them to more."""

from restballots.arguments import check_bloc, check_night, check_seats
from restballots.parts import with_item
from restballots.possible import possible, possible_with
from restballots.pricing import counts_of, least_lacks


def seats_in(night, bloc, tables):
    """How many seats the bloc has in each of the tables."""
    places = [index for index, name in enumerate(night.names) if name in bloc]
    return [sum([table[place] for place in places]) for table in tables]


def range_in(night, bloc, tables):
    """The fewest and the most seats that the bloc has in these tables."""
    held = seats_in(night, bloc, tables)
    return min(held), max(held)


def seat_range(night, bloc):
    """The fewest and the most seats that the bloc has in possible tables."""
    check_night(night)
    check_bloc(night, bloc)
    return range_in(night, bloc, possible(night))


def is_sure(night, bloc, seats):
    """Whether the bloc has at least so many seats in all possible tables."""
    check_night(night)
    check_bloc(night, bloc)
    check_seats(night, seats)
    return range_in(night, bloc, possible(night))[0] >= seats


def may_have(night, bloc, seats):
    """Whether the bloc has at least so many seats in some possible table."""
    check_night(night)
    check_bloc(night, bloc)
    check_seats(night, seats)
    return range_in(night, bloc, possible(night))[1] >= seats


def margin(night, bloc, seats):
    """The fewest ballots of any kind that give the bloc at least so many seats."""
    check_night(night)
    check_bloc(night, bloc)
    check_seats(night, seats)
    tables = night.tables()
    enough = [table for table, held in zip(tables, seats_in(night, bloc, tables)) if held >= seats]
    return min([sum(lacks) for lacks in least_lacks(night.divisors, counts_of(night.parties), enough)])


def range_without(night, bloc, index):
    """The range that the bloc has if the SIZE of the pile with this index is 0."""
    piles = with_item(night.piles, index, (0, night.piles[index][1]))
    return range_in(night, bloc, possible_with(night, piles))


def mattering(night, bloc):
    """The indexes of the piles without which the bloc has another range, ascending."""
    usual = seat_range(night, bloc)
    return tuple([index for index in range(len(night.piles)) if range_without(night, bloc, index) != usual])


def seatless(night):
    """The names of the parties that have no seat in any possible table, in their order."""
    tables = possible(night)
    return tuple([name for index, name in enumerate(night.names) if all([table[index] == 0 for table in tables])])
