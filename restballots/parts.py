"""The three parts of a night, (divisors, parties, piles): looked at, and made anew with something changed."""

from restballots.errors import InvalidDivisors, InvalidParties, InvalidPiles
from restballots.kinds import is_divisors, is_index, is_party, is_pile, is_tuple_of
from restballots.limits import MOST_PARTIES, MOST_PILES


def names_of(parties):
    """The names of the parties, in their order."""
    return tuple([name for name, _ in parties])


def check_divisors(divisors):
    """Raises an error for what is no divisors."""
    if not is_divisors(divisors):
        raise InvalidDivisors(divisors)


def check_parties(parties):
    """Raises an error for what is no tuple of parties of a night."""
    if not isinstance(parties, tuple) or len(parties) == 0:
        raise InvalidParties(None)
    for index, party in enumerate(parties):
        if index == MOST_PARTIES or not is_party(party) or party[0] in names_of(parties[:index]):
            raise InvalidParties(index)


def check_piles(piles, names):
    """Raises an error for what is no tuple of piles for parties with these names."""
    if not isinstance(piles, tuple):
        raise InvalidPiles(None)
    for index, pile in enumerate(piles):
        if index == MOST_PILES or not is_pile(pile, names):
            raise InvalidPiles(index)


def names_a_part(change, parts):
    """Whether the value is a triple that names one of these parts; its VALUE can be anything."""
    if not is_tuple_of(change, 3) or not isinstance(change[0], str):
        return False
    divisors, parties, piles = parts
    rows = {"divisor": divisors, "count": parties, "size": piles}
    return is_index(change[1], len(rows.get(change[0], ())))


def with_item(row, index, item):
    """The tuple with this item at the index."""
    return row[:index] + (item,) + row[index + 1:]


def with_change(parts, change):
    """The parts behind a change that names one of them; they need not give a night."""
    divisors, parties, piles = parts
    what, index, value = change
    if what == "divisor":
        return with_item(divisors, index, value), parties, piles
    if what == "count":
        return divisors, with_item(parties, index, (parties[index][0], value)), piles
    return divisors, parties, with_item(piles, index, (value, piles[index][1]))


def with_ballots(parties, names, ballots):
    """The parties with the ballots of those that are named put to their counts."""
    more = dict(zip(names, ballots))
    return tuple([(name, count + more.get(name, 0)) for name, count in parties])
