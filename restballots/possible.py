"""Possible tables: with ballots that make them, or with steps and a bloc that bar them."""

from restballots.arguments import check_night, check_table
from restballots.groups import dealt, group_rooms, is_enough, members, short_group
from restballots.pricing import counts_of, lacks_at, least_lacks, price_behind, steps_to_least


def is_possible(night, table):
    """Whether the table is possible."""
    check_night(night)
    check_table(night, table)
    lacks = least_lacks(night.divisors, counts_of(night.parties), table)
    return is_enough(lacks, group_rooms(night.names, night.piles))


def possible(night):
    """All possible tables, ascending."""
    check_night(night)
    divisors = night.divisors
    counts = counts_of(night.parties)
    rooms = group_rooms(night.names, night.piles)
    return tuple([table for table in night.tables() if is_enough(least_lacks(divisors, counts, table), rooms)])


def ballots_for(night, table):
    """A pair of ballots and a price that make the table a result, None if it is not possible."""
    if not is_possible(night, table):
        return None
    counts = counts_of(night.parties)
    price = price_behind(steps_to_least(night.divisors, counts, table))
    lacks = lacks_at(night.divisors, counts, table, price)
    return dealt(night.names, night.piles, lacks), price


def barring(night, table):
    """A pair of steps and a bloc that bar the table, None if it is possible."""
    check_night(night)
    check_table(night, table)
    names = night.names
    counts = counts_of(night.parties)
    steps = steps_to_least(night.divisors, counts, table)
    lacks = lacks_at(night.divisors, counts, table, price_behind(steps))
    group = short_group(lacks, group_rooms(names, night.piles))
    if group is None:
        return None
    return tuple([(names[index], price) for index, price in steps]), members(names, group)
