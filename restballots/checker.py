"""The checker: whether a certificate shows that a claim is true, whoever wrote it."""

from math import gcd

from restballots.blocs import seats_in
from restballots.demands import night_in
from restballots.kinds import is_between, is_bloc, is_divisors, is_integer, is_outcome, is_row, is_table, is_tuple_of
from restballots.limits import MOST_PARTIES
from restballots.parts import with_ballots
from restballots.pricing import counts_of, is_made_by
from restballots.quotients import ZERO, fraction, is_below
from restballots.rules import are_alike


def is_price(value):
    """Whether the value is a fraction from 0 on."""
    if not is_row(value, 2):
        return False
    top, bottom = value
    return bottom > 0 and gcd(top, bottom) == 1


def makes(night, counts, table, price):
    """Whether the price makes the table a result of the counts."""
    top, bottom = price
    divisors = night.divisors
    for count, own in zip(counts, table):
        if own > 0 and count * bottom < top * divisors[own - 1]:
            return False
        if own < night.seats and count * bottom > top * divisors[own]:
            return False
    return True


def lacks_of(night, table, price):
    """How many ballots each party lacks for its need at the price."""
    top, bottom = price
    costs = [top * night.divisors[own - 1] if own > 0 else 0 for own in table]
    # A need is an integer, so the quotient is rounded up.
    paid = [(cost + bottom - 1) // bottom for cost in costs]
    return [max(0, least - count) for least, count in zip(paid, counts_of(night.parties))]


def is_step(night, table, price, step):
    """Whether the value is a step at the price."""
    if not is_tuple_of(step, 2) or not isinstance(step[0], str) or not is_price(step[1]):
        return False
    if step[0] not in night.names:
        return False
    index = night.names.index(step[0])
    own = table[index]
    if own == night.seats:
        return False
    need = night.parties[index][1] + lacks_of(night, table, price)[index]
    return is_below(price, step[1]) and fraction(need, night.divisors[own]) == step[1]


def price_behind(night, table, steps):
    """The price at which the steps end, None for what is no steps from the price 0 on."""
    if not isinstance(steps, tuple):
        return None
    price = ZERO
    for step in steps:
        if not is_step(night, table, price, step):
            return None
        price = step[1]
    return price


def shows_can(night, table, paper):
    """Whether the paper is a pair of ballots and a price that make the table a result."""
    if not is_tuple_of(paper, 2) or not is_tuple_of(paper[0], len(night.piles)) or not is_price(paper[1]):
        return False
    parties = night.parties
    for row, pile in zip(paper[0], night.piles):
        if not is_outcome(row, pile):
            return False
        parties = with_ballots(parties, pile[1], row)
    return makes(night, counts_of(parties), table, paper[1])


def shows_barred(night, table, paper):
    """Whether the paper is a pair of steps and a bloc that bar the table."""
    if not is_tuple_of(paper, 2) or not is_bloc(paper[1], night.names):
        return False
    price = price_behind(night, table, paper[0])
    if price is None:
        return False
    lacks = [lack for name, lack in zip(night.names, lacks_of(night, table, price)) if name in paper[1]]
    sizes = [size for size, names in night.piles if any([name in paper[1] for name in names])]
    return sum(lacks) > sum(sizes)


def show_barred(night, tables, papers):
    """Whether the papers are pairs of just these tables and of what bars them."""
    if not is_tuple_of(papers, len(tables)):
        return False
    for table, pair in zip(tables, papers):
        if not is_tuple_of(pair, 2) or not is_table(pair[0], len(night), night.seats):
            return False
        if pair[0] != table or not shows_barred(night, table, pair[1]):
            return False
    return True


def shows_near(night, table, many, paper):
    """Whether the paper is a pair of so many ballots or fewer, and a price, that make the table a result."""
    if not is_tuple_of(paper, 2) or not is_row(paper[0], len(night)) or not is_price(paper[1]):
        return False
    counts = [count + more for count, more in zip(counts_of(night.parties), paper[0])]
    return sum(paper[0]) <= many and makes(night, counts, table, paper[1])


def shows_far(night, table, many, paper):
    """Whether the paper is steps behind which the parties lack so many ballots together."""
    price = price_behind(night, table, paper)
    return price is not None and sum(lacks_of(night, table, price)) >= many


def accepts_table(claim, paper):
    """Whether the paper is right for a claim of three parts that begins with "can" or "barred"."""
    word, text, table = claim
    night = night_in(text)
    if night is None or not is_table(table, len(night), night.seats):
        return False
    if word == "can":
        return shows_can(night, table, paper)
    return shows_barred(night, table, paper)


def accepts_distance(claim, paper):
    """Whether the paper is right for a claim of four parts that begins with "near" or "far"."""
    word, text, table, many = claim
    night = night_in(text)
    if night is None or not is_table(table, len(night), night.seats) or not is_integer(many) or many < 0:
        return False
    if word == "near":
        return shows_near(night, table, many, paper)
    return shows_far(night, table, many, paper)


def accepts_bloc(claim, paper):
    """Whether the paper is right for a claim of four parts that begins with "sure" or "never"."""
    word, text, bloc, seats = claim
    night = night_in(text)
    if night is None or not is_bloc(bloc, night.names) or not is_between(seats, 0, night.seats):
        return False
    tables = night.tables()
    held = seats_in(night, bloc, tables)
    if word == "sure":
        return show_barred(night, [table for table, own in zip(tables, held) if own < seats], paper)
    return show_barred(night, [table for table, own in zip(tables, held) if own >= seats], paper)


def accepts_rules(claim, paper):
    """Whether the paper is right for a claim of four parts that begins with "alike" or "parted"."""
    word, one, other, many = claim
    if not is_divisors(one) or not is_divisors(other) or not is_between(many, 2, MOST_PARTIES):
        return False
    if len(one) != len(other):
        return False
    if word == "alike":
        return is_tuple_of(paper, 0) and are_alike(one, other, many)
    if not is_tuple_of(paper, 2) or not is_row(paper[0], many) or not is_table(paper[1], many, len(one)):
        return False
    return is_made_by(one, paper[0], paper[1]) != is_made_by(other, paper[0], paper[1])


def accepts(claim, certificate):
    """Whether this is a claim for the checker and a certificate for it."""
    if not isinstance(claim, tuple) or len(claim) not in (3, 4) or not isinstance(claim[0], str):
        return False
    if claim[0] in ("can", "barred"):
        return len(claim) == 3 and accepts_table(claim, certificate)
    if len(claim) == 3:
        return False
    if claim[0] in ("near", "far"):
        return accepts_distance(claim, certificate)
    if claim[0] in ("sure", "never"):
        return accepts_bloc(claim, certificate)
    if claim[0] in ("alike", "parted"):
        return accepts_rules(claim, certificate)
    return False
