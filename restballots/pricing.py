"""What prices ask of a table: bounds, needs, and the steps to the least price.

Divisors, counts and table are plain tuples here, the counts of any size.
"""

from restballots.quotients import ZERO, fraction, is_below


def counts_of(parties):
    """The counts of the parties, in their order."""
    return tuple([count for _, count in parties])


def price_bounds(divisors, counts, table):
    """Two quotients: the least price at which no party has more seats, and the greatest one at which none has fewer."""
    least = ZERO
    greatest = None
    for count, own in zip(counts, table):
        if own < len(divisors) and is_below(least, (count, divisors[own])):
            least = (count, divisors[own])
        if own > 0 and (greatest is None or is_below((count, divisors[own - 1]), greatest)):
            greatest = (count, divisors[own - 1])
    return least, greatest


def is_made_by(divisors, counts, table):
    """Whether the table is a result of the counts."""
    least, greatest = price_bounds(divisors, counts, table)
    return not is_below(greatest, least)


def needs_at(divisors, counts, table, price):
    """The needs of all parties at the price."""
    top, bottom = price
    found = []
    for count, own in zip(counts, table):
        # Seats are paid with whole ballots, so the need is rounded up.
        paid = (top * divisors[own - 1] + bottom - 1) // bottom if own > 0 else 0
        found.append(max(count, paid))
    return tuple(found)


def steps_at(divisors, counts, table, price):
    """All steps at the price, each as a pair of the index of its party and the price that it leads to."""
    found = []
    for index, need in enumerate(needs_at(divisors, counts, table, price)):
        own = table[index]
        if own < len(divisors) and is_below(price, (need, divisors[own])):
            found.append((index, fraction(need, divisors[own])))
    return found


def farthest(steps):
    """The first one of these steps that leads to the greatest price."""
    best = steps[0]
    for step in steps:
        if is_below(best[1], step[1]):
            best = step
    return best


def steps_to_least(divisors, counts, table):
    """Steps from the price 0 to the least price of the table."""
    made = []
    price = ZERO
    while found := steps_at(divisors, counts, table, price):
        # The farthest step leaves the fewest ones to be made.
        step = farthest(found)
        made.append(step)
        price = step[1]
    return made


def price_behind(steps):
    """The price at which these steps end, which begin at 0."""
    return steps[-1][1] if len(steps) > 0 else ZERO


def lacks_at(divisors, counts, table, price):
    """How many ballots each party lacks for its need at the price."""
    needed = needs_at(divisors, counts, table, price)
    return tuple([need - count for need, count in zip(needed, counts)])


def least_lacks(divisors, counts, table):
    """How many ballots each party lacks for its need at the least price of the table."""
    price = price_behind(steps_to_least(divisors, counts, table))
    return lacks_at(divisors, counts, table, price)
