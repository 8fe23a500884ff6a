"""The least price of a table, and how many ballots it takes to come there. The piles are nothing to these."""

from restballots.arguments import check_night, check_table
from restballots.pricing import counts_of, levels_and_lacks, scale_of
from restballots.quotients import fraction


def level_and_lacks(night, table):
    """The least level of the table, and how many ballots each party lacks there for its need."""
    check_night(night)
    check_table(night, table)
    return levels_and_lacks(night.divisors, counts_of(night.parties), (table,))[0]


def least_price(night, table):
    """The price at which no step is left."""
    level, _ = level_and_lacks(night, table)
    return fraction(level, scale_of(night.divisors))


def needs(night, table):
    """The needs of all parties at the least price."""
    _, lacks = level_and_lacks(night, table)
    return tuple([count + lack for count, lack in zip(counts_of(night.parties), lacks)])


def distance(night, table):
    """The fewest ballots of any kind that make the table a result."""
    _, lacks = level_and_lacks(night, table)
    return sum(lacks)
