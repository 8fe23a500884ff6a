"""Possible tables: with ballots that make them, or with steps and a bloc that bar them."""

from restballots.arguments import check_night, check_table
from restballots.groups import dealt, group_rooms, is_enough, members, short_group, tight_rooms
from restballots.pricing import claims_of, counts_of, least_lacks, levels_and_lacks, needs_at, scale_of, step_from
from restballots.quotients import fraction
from restballots.seating import tables_in_reach


def is_possible(night, table):
    """Whether the table is possible."""
    check_night(night)
    check_table(night, table)
    lacks = least_lacks(night.divisors, counts_of(night.parties), (table,))[0]
    return is_enough(lacks, tight_rooms(group_rooms(night.names, night.piles)))


def possible_with(night, piles):
    """All tables that are possible with these piles in the place of those of the night, ascending."""
    divisors = night.divisors
    counts = counts_of(night.parties)
    rooms = group_rooms(night.names, piles)
    most = [count + rooms[1 << index] for index, count in enumerate(counts)]
    tables = tables_in_reach(claims_of(divisors, counts), claims_of(divisors, most), len(divisors))
    tight = tight_rooms(rooms)
    lacking = least_lacks(divisors, counts, tables)
    return tuple([table for table, lacks in zip(tables, lacking) if is_enough(lacks, tight)])


def possible(night):
    """All possible tables, ascending."""
    check_night(night)
    return possible_with(night, night.piles)


def ballots_for(night, table):
    """A pair of ballots and a price that make the table a result, None if it is not possible."""
    check_night(night)
    check_table(night, table)
    level, lacks = levels_and_lacks(night.divisors, counts_of(night.parties), (table,))[0]
    if not is_enough(lacks, tight_rooms(group_rooms(night.names, night.piles))):
        return None
    return dealt(night.names, night.piles, lacks), fraction(level, scale_of(night.divisors))


def bar_of(night, table, rooms):
    """A pair of steps and a bloc that bar the table, None if it is possible; `rooms` are those for all groups."""
    divisors = night.divisors
    names = night.names
    counts = counts_of(night.parties)
    scale = scale_of(divisors)
    level = 0
    steps = []
    group = None
    while group is None and (step := step_from(divisors, counts, table, level)) is not None:
        index, level = step
        steps.append((names[index], fraction(level, scale)))
        needed = needs_at(divisors, counts, table, level)
        group = short_group([need - count for need, count in zip(needed, counts)], rooms)
    return None if group is None else (tuple(steps), members(names, group))


def barring(night, table):
    """A pair of steps and a bloc that bar the table, None if it is possible."""
    check_night(night)
    check_table(night, table)
    return bar_of(night, table, group_rooms(night.names, night.piles))
