"""The least price of a table, and how many ballots it takes to come there. The piles are nothing to these."""

from restballots.arguments import check_night, check_table
from restballots.pricing import counts_of, lacks_at, needs_at, price_behind, steps_to_least


def least_price(night, table):
    """The price at which no step is left."""
    check_night(night)
    check_table(night, table)
    return price_behind(steps_to_least(night.divisors, counts_of(night.parties), table))


def needs(night, table):
    """The needs of all parties at the least price."""
    price = least_price(night, table)
    return needs_at(night.divisors, counts_of(night.parties), table, price)


def distance(night, table):
    """The fewest ballots of any kind that make the table a result."""
    price = least_price(night, table)
    return sum(lacks_at(night.divisors, counts_of(night.parties), table, price))
