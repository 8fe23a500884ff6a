"""Results: the tables that come out of the counts as they are."""

from restballots.arguments import check_night, check_table
from restballots.pricing import claims_of, counts_of, is_made_by, price_bounds
from restballots.quotients import fraction, is_below
from restballots.seating import tables_made


def is_result(night, table):
    """Whether the table is a result of the counts as they are."""
    check_night(night)
    check_table(night, table)
    return is_made_by(night.divisors, counts_of(night.parties), table)


def results(night):
    """All results of the counts as they are, ascending."""
    check_night(night)
    return tables_made(claims_of(night.divisors, counts_of(night.parties)), night.seats)


def prices(night, table):
    """The least and the greatest price that makes the table a result, None if it is no result."""
    check_night(night)
    check_table(night, table)
    least, greatest = price_bounds(night.divisors, counts_of(night.parties), table)
    if is_below(greatest, least):
        return None
    return fraction(least[0], least[1]), fraction(greatest[0], greatest[1])
