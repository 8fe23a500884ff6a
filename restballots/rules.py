"""Rules of divisors beside each other: where two rows part, and which of them favours the greater party."""

from restballots.arguments import check_rules, check_same_seats
from restballots.parts import check_divisors
from restballots.quotients import is_below


def numbers_for(seats, many):
    """The pairs of numbers whose quotients decide the results of so many parties, the lesser one ahead, ascending."""
    pairs = [(low, high) for low in range(1, seats + 1) for high in range(low + 1, seats + 1)]
    if many == 2:
        return [(low, high) for low, high in pairs if low + high == seats + 1]
    return [(low, high) for low, high in pairs if low + high <= seats + 1]


def quotient_at(row, pair):
    """The quotient of the divisors with these numbers."""
    return row[pair[0] - 1], row[pair[1] - 1]


def parting_pairs(one, other, many):
    """All pairs of numbers at which the rows part for so many parties, ascending."""
    check_rules(one, other, many)
    pairs = []
    for pair in numbers_for(len(one), many):
        here = quotient_at(one, pair)
        there = quotient_at(other, pair)
        if is_below(here, there) or is_below(there, here):
            pairs.append(pair)
    return tuple(pairs)


def are_alike(one, other, many):
    """Whether both rows have the same results for all counts of so many parties."""
    return len(parting_pairs(one, other, many)) == 0


def parting_counts(one, other, many):
    """A pair of counts and a table that is a result of them by just one of both rows, None if they are alike."""
    pairs = parting_pairs(one, other, many)
    if len(pairs) == 0:
        return None
    low, high = pairs[0]
    left = len(one) + 1 - low - high
    # At the price 1 each count is a divisor of the first row, so there two parties claim the last seat alike.
    counts = [one[low - 1], one[high - 1], one[left - 1] if left > 0 else 0, 0, 0, 0]
    # By the second row one of the two claims more: the table that gives the seat to the other one is no result.
    if is_below(quotient_at(one, pairs[0]), quotient_at(other, pairs[0])):
        table = [low, high - 1, left, 0, 0, 0]
    else:
        table = [low - 1, high, left, 0, 0, 0]
    return tuple(counts[:many]), tuple(table[:many])


def favours(one, other):
    """Whether the second row favours the greater one of two parties."""
    check_divisors(one)
    check_divisors(other)
    check_same_seats(one, other)
    # What the first party needs for a seat is so many times the ballots of the second one; only where this is more than
    # once, having at least as many ballots is not enough, and it must not be more by the second row.
    pairs = numbers_for(len(one), 2)
    return not any([is_below(quotient_at(other, pair), quotient_at(one, pair)) for pair in pairs])
