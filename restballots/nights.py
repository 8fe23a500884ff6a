"""Nights: what is counted so far, and the piles that are not."""

from restballots.errors import (
    InvalidChange, InvalidCounts, InvalidDivisors, InvalidIndex, InvalidParties, InvalidPiles, InvalidText,
)
from restballots.kinds import is_index, is_outcome
from restballots.parts import (
    check_divisors, check_parties, check_piles, names_a_part, names_of, with_ballots, with_change,
)
from restballots.texts import parts_in, text_of


class Night:
    """The divisors, the parties with their counts, and the piles of an election night; it never changes."""

    def __init__(self, divisors, parties, piles=()):
        check_divisors(divisors)
        check_parties(parties)
        check_piles(piles, names_of(parties))
        self._divisors = divisors
        self._parties = parties
        self._piles = piles
        self._text = text_of(divisors, parties, piles)

    @classmethod
    def read(cls, text):
        """The night with this text."""
        parts = parts_in(text) if isinstance(text, str) else None
        if parts is None:
            raise InvalidText(text)
        divisors, parties, piles = parts
        try:
            return cls(divisors, parties, piles)
        except (InvalidDivisors, InvalidParties, InvalidPiles):
            raise InvalidText(text) from None

    @property
    def divisors(self):
        """The divisors, as they were passed."""
        return self._divisors

    @property
    def parties(self):
        """The parties, as they were passed."""
        return self._parties

    @property
    def piles(self):
        """The piles, as they were passed."""
        return self._piles

    @property
    def names(self):
        """The names of the parties."""
        return names_of(self._parties)

    @property
    def seats(self):
        """The number of seats."""
        return len(self._divisors)

    def __len__(self):
        return len(self._parties)

    def __str__(self):
        return str(self._text)

    def __eq__(self, other):
        return isinstance(other, Night) and self._text == other._text

    def changed(self, change):
        """The night behind a change."""
        parts = (self._divisors, self._parties, self._piles)
        if not names_a_part(change, parts):
            raise InvalidChange(change)
        divisors, parties, piles = with_change(parts, change)
        try:
            return Night(divisors, parties, piles)
        except (InvalidDivisors, InvalidParties, InvalidPiles):
            raise InvalidChange(change) from None

    def counted(self, index, ballots):
        """The night in which the pile with this index is taken out and its ballots are counted."""
        if not is_index(index, len(self._piles)):
            raise InvalidIndex(index)
        pile = self._piles[index]
        if not is_outcome(ballots, pile):
            raise InvalidCounts(ballots)
        parties = with_ballots(self._parties, pile[1], ballots)
        try:
            return Night(self._divisors, parties, self._piles[:index] + self._piles[index + 1:])
        except InvalidParties:
            raise InvalidCounts(ballots) from None

    def tables(self):
        """All tables of the night, ascending."""
        begun = [((), len(self._divisors))]
        for _ in range(len(self._parties) - 1):
            begun = [(told + (own,), left - own) for told, left in begun for own in range(left + 1)]
        return tuple([told + (left,) for told, left in begun])
