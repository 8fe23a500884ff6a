"""Point 16 word by word, slowly: whether claims are true, whether papers are right; and papers with something changed."""

import functools
import math
from fractions import Fraction

from restballots.errors import InvalidText
from restballots.nights import Night
from tests import oracle


def is_int(value):
    return type(value) is int


def is_tuple_of(value, many):
    return type(value) is tuple and len(value) == many


def is_row(value, many):
    return is_tuple_of(value, many) and all(is_int(own) and own >= 0 for own in value)


def night_of(text):
    try:
        return Night.read(text)
    except InvalidText:
        return None


def is_table(value, night):
    return is_row(value, len(night)) and sum(value) == night.seats


def is_bloc(value, night):
    return type(value) is tuple and all(type(name) is str for name in value) and value in oracle.groups(night.names)


def price_of(value):
    if not is_row(value, 2) or value[1] == 0 or math.gcd(*value) != 1:
        return None
    return Fraction(*value)


def end_of(night, table, steps):
    """The price behind the steps, None for what is no steps."""
    price = Fraction(0)
    if type(steps) is not tuple:
        return None
    for step in steps:
        if not is_tuple_of(step, 2) or type(step[0]) is not str or price_of(step[1]) is None:
            return None
        if (step[0], price_of(step[1])) not in oracle.steps(night, table, price):
            return None
        price = price_of(step[1])
    return price


def shows_can(night, table, paper):
    if not is_tuple_of(paper, 2) or not is_tuple_of(paper[0], len(night.piles)) or price_of(paper[1]) is None:
        return False
    if not all(is_row(row, len(names)) and sum(row) <= size for row, (size, names) in zip(paper[0], night.piles)):
        return False
    return oracle.fits(night.divisors, oracle.counts_with(night, paper[0]), table, price_of(paper[1]))


def shows_barred(night, table, paper):
    if not is_tuple_of(paper, 2) or not is_bloc(paper[1], night):
        return False
    price = end_of(night, table, paper[0])
    return price is not None and oracle.lack(night, table, price, paper[1]) > oracle.room(night, paper[1])


def shows_all_barred(night, tables, papers):
    if not is_tuple_of(papers, len(tables)):
        return False
    for table, pair in zip(tables, papers):
        if not is_tuple_of(pair, 2) or not is_table(pair[0], night) or pair[0] != table:
            return False
        if not shows_barred(night, table, pair[1]):
            return False
    return True


def shows_near(night, table, many, paper):
    if not is_tuple_of(paper, 2) or not is_row(paper[0], len(night)) or price_of(paper[1]) is None:
        return False
    counts = [count + more for count, more in zip(oracle.counts_of(night), paper[0])]
    return sum(paper[0]) <= many and oracle.fits(night.divisors, counts, table, price_of(paper[1]))


def shows_far(night, table, many, paper):
    price = end_of(night, table, paper)
    return price is not None and oracle.lack(night, table, price, night.names) >= many


def pairs_of(one, other, many):
    seats = len(one)
    for a in range(1, seats + 1):
        for b in range(a + 1, seats + 1):
            if (a + b == seats + 1 if many == 2 else a + b <= seats + 1):
                if Fraction(one[a - 1], one[b - 1]) != Fraction(other[a - 1], other[b - 1]):
                    yield a, b


def are_rows(one, other):
    for row in (one, other):
        if type(row) is not tuple or not 1 <= len(row) <= 12 or not all(is_int(divisor) for divisor in row):
            return False
        if list(row) != sorted(set(row)) or row[0] < 1 or row[-1] > 100:
            return False
    return len(one) == len(other)


def is_right_for_rules(claim, paper):
    if len(claim) != 4 or not are_rows(*claim[1:3]) or not is_int(claim[3]) or not 2 <= claim[3] <= 6:
        return False
    word, one, other, many = claim
    if word == "alike":
        return is_tuple_of(paper, 0) and not list(pairs_of(one, other, many))
    if not is_tuple_of(paper, 2) or not is_row(paper[0], many) or not is_row(paper[1], many) or sum(paper[1]) != len(one):
        return False
    return oracle.is_result(one, *paper) != oracle.is_result(other, *paper)


def is_right(claim, paper):
    """Whether this is a claim for the checker and the paper a certificate for it."""
    if type(claim) is not tuple or not claim or type(claim[0]) is not str:
        return False
    word, *told = claim
    if word in ("alike", "parted"):
        return is_right_for_rules(claim, paper)
    night = night_of(told[0]) if told else None
    if night is None or len(claim) != {"can": 3, "barred": 3, "sure": 4, "never": 4, "near": 4, "far": 4}.get(word):
        return False
    if word in ("sure", "never"):
        if not is_bloc(told[1], night) or not is_int(told[2]) or not 0 <= told[2] <= night.seats:
            return False
        tables = [row for row in oracle.tables(night.seats, len(night))
                  if (oracle.seats_in(night, told[1], row) < told[2]) == (word == "sure")]
        return shows_all_barred(night, tables, paper)
    if not is_table(told[1], night) or (len(told) == 3 and (not is_int(told[2]) or told[2] < 0)):
        return False
    shows = {"can": shows_can, "barred": shows_barred, "near": shows_near, "far": shows_far}[word]
    return shows(night, *told[1:], paper)


@functools.lru_cache(maxsize=None)
def distance_by_text(text, table):
    """By steps; where these are few ballots, also by going through all ways to raise the counts."""
    night = Night.read(text)
    far = oracle.lack(night, table, oracle.least_price(night, table, lambda found: found[0]), night.names)
    if far <= 5 and far != oracle.distance(night.divisors, oracle.counts_of(night), table):
        raise AssertionError(text, table)
    return far


def is_true(claim):
    """Whether the claim, which is one, is true, by going through all ballots."""
    word, *told = claim
    if word in ("alike", "parted"):
        return (not list(pairs_of(*told))) == (word == "alike")
    night = Night.read(told[0])
    if word in ("can", "barred"):
        return (told[1] in oracle.possible(night)) == (word == "can")
    if word in ("sure", "never"):
        fewest, most = oracle.seat_range(night, told[1])
        return fewest >= told[2] if word == "sure" else most < told[2]
    far = distance_by_text(told[0], told[1])
    return far <= told[2] if word == "near" else far >= told[2]


def other_part(source, value):
    """Something else in the place of a part of a paper that has no parts, or as a whole."""
    if type(value) is int:
        return source.choice([value + 1, value - 1, value + 1, value - 1, 0, 1, 2 * value, -value, bool(value), None, str(value), (value,)])
    if type(value) is str:
        return source.choice(["red", "blue", "gold", "a1", "zz", "mid", "", value + " ", value[:-1], None, (value,), 0])
    return source.choice([(), None, list(value), value + value[:1], value[1:], value[:-1], value[::-1], value + value, (value,), 1, "x"])


def with_another_part(source, value):
    """The paper with something in it changed, at any depth."""
    if type(value) is not tuple or not value or source.random() < 0.15:
        return other_part(source, value)
    index = source.randrange(len(value))
    if source.random() < 0.1:
        return value[:index] + (value[source.randrange(len(value))],) + value[index + 1:]
    return value[:index] + (with_another_part(source, value[index]),) + value[index + 1:]
