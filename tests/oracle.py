"""What the document says of tables, steps and ballots, by trying everything; slow, and only for small nights."""

import functools
import itertools
import math
import random
from fractions import Fraction

from restballots.nights import Night

ROWS = [
    (1,), (7,), (1, 2), (1, 3), (2, 3), (99, 100), (1, 2, 3), (1, 3, 5), (2, 3, 4), (5, 6, 7), (1, 10, 100), (98, 99, 100),
    (1, 2, 3, 4), (3, 4, 6, 7), (10, 14, 30, 50),
]
NAMES = ("red", "blue", "gold", "a1", "zz", "mid")


def tables(seats, many):
    return tuple(row for row in itertools.product(range(seats + 1), repeat=many) if sum(row) == seats)


def fits(divisors, counts, table, price):
    """Whether the price, any number from 0 on, makes the table a result of the counts."""
    for count, own in zip(counts, table):
        if own > 0 and count < price * divisors[own - 1]:
            return False
        if own < len(divisors) and count > price * divisors[own]:
            return False
    return True


def all_prices(divisors, counts, table):
    """All quotients of counts and divisors that make the table a result, and 0 if it does."""
    told = {Fraction(0)} | {Fraction(count, divisor) for count in counts for divisor in divisors}
    return sorted(price for price in told if fits(divisors, counts, table, price))


def is_result(divisors, counts, table):
    return len(all_prices(divisors, counts, table)) > 0


def results(divisors, counts):
    return tuple(row for row in tables(len(divisors), len(counts)) if is_result(divisors, counts, row))


def counts_of(night):
    return tuple(count for _, count in night.parties)


def outcomes(pile):
    size, names = pile
    return [row for row in itertools.product(range(size + 1), repeat=len(names)) if sum(row) <= size]


def counts_with(night, ballots):
    found = dict(night.parties)
    for (_, names), row in zip(night.piles, ballots):
        for name, more in zip(names, row):
            found[name] += more
    return tuple(found.values())


def all_counts(night):
    return {counts_with(night, ballots) for ballots in itertools.product(*[outcomes(pile) for pile in night.piles])}


@functools.lru_cache(maxsize=None)
def possible_by_text(text):
    night = Night.read(text)
    return tuple(sorted({row for counts in all_counts(night) for row in results(night.divisors, counts)}))


def possible(night):
    """The tables that are results with some ballots of the piles."""
    return possible_by_text(str(night))


def raised_by(counts, many):
    """All ways to raise the counts by so many ballots together."""
    for more in itertools.product(range(many + 1), repeat=len(counts)):
        if sum(more) == many:
            yield tuple(count + own for count, own in zip(counts, more))


def distance(divisors, counts, table):
    for many in itertools.count():
        if any(is_result(divisors, raised, table) for raised in raised_by(counts, many)):
            return many


def needs(night, table, price):
    """For each party the least integer that its count and the price of its seats allow."""
    paid = [price * night.divisors[own - 1] if own > 0 else 0 for own in table]
    return tuple(max(count, math.ceil(least)) for count, least in zip(counts_of(night), paid))


def steps(night, table, price):
    """All steps at the price: pairs of a name and the price behind it."""
    found = []
    for name, own, need in zip(night.names, table, needs(night, table, price)):
        if own < night.seats and need > price * night.divisors[own]:
            found.append((name, Fraction(need, night.divisors[own])))
    return found


def least_price(night, table, pick):
    """The price at which no step is left; `pick` chooses the step to be made."""
    price = Fraction(0)
    while steps(night, table, price):
        price = pick(steps(night, table, price))[1]
    return price


def room(night, group):
    return sum(size for size, names in night.piles if set(names) & set(group))


def lack(night, table, price, group):
    needed = zip(night.names, needs(night, table, price), counts_of(night))
    return sum(need - count for name, need, count in needed if name in group)


def is_within_rooms(night, table):
    """Whether the table is possible by point 10, with the least price come to by steps made one by one."""
    price = least_price(night, table, lambda found: max(found, key=lambda step: step[1]))
    return all(lack(night, table, price, group) <= room(night, group) for group in groups(night.names))


def groups(names):
    """All blocs of these parties."""
    return [tuple(sorted(group)) for many in range(1, len(names) + 1) for group in itertools.combinations(names, many)]


def seats_in(night, bloc, table):
    return sum(own for name, own in zip(night.names, table) if name in bloc)


def seat_range(night, bloc):
    held = [seats_in(night, bloc, table) for table in possible(night)]
    return min(held), max(held)


@functools.lru_cache(maxsize=None)
def margin_by_text(text, bloc, seats):
    night = Night.read(text)
    found = [row for row in tables(night.seats, len(night)) if seats_in(night, bloc, row) >= seats]
    pick = functools.partial(max, key=lambda step: step[1])
    return min(lack(night, row, least_price(night, row, pick), night.names) for row in found)


def holds(night, demand):
    """Whether a demand on the night holds, by point 14."""
    word, told, *rest = demand
    if word == "can":
        return told in possible(night)
    if word == "sure":
        return seat_range(night, told)[0] >= rest[0]
    if word == "may":
        return seat_range(night, told)[1] >= rest[0]
    if word == "far":
        return margin_by_text(str(night), told, rest[0]) >= rest[1]
    return possible(night) == possible(Night.read(told))


def other_night(source, night):
    """A night with the same seats and names, and some of its numbers."""
    row = source.choice([night.divisors, night.divisors, tuple(range(1, night.seats + 1)), tuple(range(101 - night.seats, 101))])
    parties = tuple((name, source.choice([count, count, source.randint(0, 20)])) for name, count in night.parties)
    return Night(row, parties, source.choice([night.piles, night.piles, night.piles[:1], ()]))


def some_demand(source, night):
    """Any demand on the night."""
    word = source.choice(["can", "sure", "may", "far", "like"])
    if word == "can":
        return word, source.choice(night.tables())
    if word == "like":
        return word, str(other_night(source, night))
    bloc = source.choice(groups(night.names))
    seats = source.randint(0, night.seats)
    return (word, bloc, seats, source.choice([0, 1, 2, 5, 20, 10 ** 7])) if word == "far" else (word, bloc, seats)


def piles_for(source, names, many, most):
    piles = []
    for _ in range(many):
        chosen = tuple(name for name in names if source.random() < 0.6)
        piles.append((source.randint(0, most), chosen or names[:1]))
    return tuple(piles)


def night_of(source, row, many, most, piles=0, most_left=0):
    """A night with so many parties, counts and sizes up to these bounds."""
    names = tuple(source.sample(NAMES, many))
    parties = tuple((name, source.randint(0, most)) for name in names)
    return Night(row, parties, piles_for(source, names, piles, most_left))


def small_nights(seed, many):
    """So many small nights, the same ones for a seed each time."""
    source = random.Random(seed)
    found = []
    for _ in range(many):
        parties = source.randint(1, 3)
        row = source.choice([row for row in ROWS if len(row) <= 5 - parties] if parties == 3 else ROWS)
        found.append(night_of(source, row, parties, source.choice([0, 1, 3, 9, 20]), source.randint(0, 3), source.randint(0, 3)))
    return found


def great_nights(seed, many):
    """So many nights with up to 12 seats, 6 parties, 6 piles, and great numbers."""
    source = random.Random(seed)
    found = []
    for _ in range(many):
        row = tuple(sorted(source.sample(range(1, 101), source.randint(1, 12))))
        most = source.choice([0, 5, 100, 10 ** 4, 10 ** 6])
        found.append(night_of(source, row, source.randint(1, 6), most, source.randint(0, 6), source.choice([0, most // 5, most])))
    return found


def some_tables(night, seed, many):
    """So many tables of the night, the same ones each time."""
    source = random.Random(seed)
    found = []
    for _ in range(many):
        table = [0] * len(night)
        for _ in range(night.seats):
            table[source.randrange(len(night))] += 1
        found.append(tuple(table))
    return found


def neighbours(tables):
    """All tables that are one of these, or one of these with one seat moved, ascending."""
    found = set(tables)
    for table in tables:
        for one, other in itertools.permutations(range(len(table)), 2):
            if table[one] > 0:
                moved = list(table)
                moved[one] -= 1
                moved[other] += 1
                found.add(tuple(moved))
    return sorted(found)


def close_nights(seed, many):
    """So many nights with divisors close together, most of them near 100, and counts and piles of a few ballots."""
    source = random.Random(seed)
    found = []
    for _ in range(many):
        seats = source.randint(2, 12)
        first = source.choice([1, 50, 101 - seats, 101 - seats, 101 - seats])
        row = tuple(range(first, first + seats))
        most = source.choice([1, 3, 9, 40])
        found.append(night_of(source, row, source.randint(2, 6), most, source.randint(0, 4), source.choice([0, 2, most, 5 * most])))
    return found


def pair(price):
    """The fraction as the package writes it."""
    return price.numerator, price.denominator
