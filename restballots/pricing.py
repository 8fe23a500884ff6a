"""What prices ask of a table: bounds, needs, and the steps to the least price.

Divisors, counts and table are plain tuples here, the counts of any size. Each price that a step leads to is a number
of ballots divided by a divisor. So it is an integer if it is multiplied by the scale, which all divisors divide; such
an integer is called a level here.
"""

from math import lcm

from restballots.quotients import ZERO, is_below


def counts_of(parties):
    """The counts of the parties, in their order."""
    return tuple([count for _, count in parties])


def price_bounds(divisors, counts, table):
    """Two quotients: the least price at which no party has more seats, and the greatest one at which none has fewer."""
    least = ZERO
    greatest = None
    for count, own in zip(counts, table):
        if own < len(divisors) and is_below(least, (count, divisors[own])):
            least = (count, divisors[own])
        if own > 0 and (greatest is None or is_below((count, divisors[own - 1]), greatest)):
            greatest = (count, divisors[own - 1])
    return least, greatest


def is_made_by(divisors, counts, table):
    """Whether the table is a result of the counts."""
    least, greatest = price_bounds(divisors, counts, table)
    return not is_below(greatest, least)


def scale_of(divisors):
    """The least integer that all divisors divide."""
    scale = 1
    for divisor in divisors:
        scale = lcm(scale, divisor)
    return scale


def claims_of(divisors, counts):
    """For each party the levels of its claims to its first seat, its second one and so on."""
    units = units_of(divisors)[:-1]
    return [[count * unit for unit in units] for count in counts]


def pays_of(divisors):
    """For each number of seats from 0 on what they cost at the price 1."""
    return (0,) + divisors


def units_of(divisors):
    """For each number of seats from 0 on the level of the claim of one ballot to one seat more, 0 with all seats."""
    scale = scale_of(divisors)
    return tuple([scale // divisor for divisor in divisors]) + (0,)


def settled(pays, units, scale, numbers, level):
    """The least level from this one on at which no party that has one of these numbers of seats has a step left.

    This holds where the count of each such party has no step at this level.
    """
    reached = level
    before = None
    while before != reached:
        before = reached
        for own in numbers:
            # Seats are paid with whole ballots, so the price is rounded up.
            claim = -(-reached * pays[own] // scale) * units[own]
            if claim > reached:
                reached = claim
    return reached


def levels_and_lacks(divisors, counts, tables):
    """For each of the tables its least level, and how many ballots each party lacks there for its need."""
    scale = scale_of(divisors)
    pays = pays_of(divisors)
    units = units_of(divisors)
    claims = [[count * unit for unit in units] for count in counts]
    known = {}
    found = []
    for table in tables:
        begun = max([row[own] for row, own in zip(claims, table)])
        numbers = tuple(sorted(set(table)))
        # The least level goes by these two alone, and many tables have them in common.
        key = (begun, numbers)
        if key not in known:
            level = settled(pays, units, scale, numbers, begun)
            known[key] = (level, {own: -(-level * pays[own] // scale) for own in numbers})
        level, paid = known[key]
        lacks = [paid[own] - count if paid[own] > count else 0 for count, own in zip(counts, table)]
        found.append((level, tuple(lacks)))
    return found


def least_lacks(divisors, counts, tables):
    """For each of the tables how many ballots each party lacks for its need at the least price."""
    return [lacks for _, lacks in levels_and_lacks(divisors, counts, tables)]


def needs_at(divisors, counts, table, level):
    """The needs of all parties at the level."""
    scale = scale_of(divisors)
    pays = pays_of(divisors)
    return tuple([max(count, -(-level * pays[own] // scale)) for count, own in zip(counts, table)])


def step_from(divisors, counts, table, level):
    """The step at the level that leads highest: the index of its party, and the level behind it; None without any."""
    units = units_of(divisors)
    claims = [need * units[own] for need, own in zip(needs_at(divisors, counts, table, level), table)]
    most = max(claims)
    return (claims.index(most), most) if most > level else None
