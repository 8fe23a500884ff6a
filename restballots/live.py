"""Desks: nights that are counted pile by pile."""

from restballots.arguments import check_night
from restballots.nights import Night
from restballots.possible import possible
from restballots.trials import Past, Trial


class Desk:
    """A night that is counted pile by pile."""

    def __init__(self, night):
        check_night(night)
        self._first = night
        self._past = Past(night)

    @property
    def night(self):
        """The night as it is now."""
        return self._past.now()

    @property
    def still(self):
        """The number of tables that are still possible."""
        return len(possible(self._past.now()))

    @property
    def first(self):
        """The night that the desk began with."""
        return self._first

    def __len__(self):
        return len(self._past.now().piles)

    def __bool__(self):
        return True

    def count(self, index, ballots):
        """Counts one of the piles that are left, and takes it out."""
        self._past.go_on(self._past.now().counted(index, ballots))

    def add(self, size, names):
        """Puts a pile more behind the others."""
        now = self._past.now()
        # The piles that are left are right, so an error tells the index of the new one.
        self._past.go_on(Night(now.divisors, now.parties, now.piles + ((size, names),)))

    def undo(self):
        """Takes back the last call of the two above that is not taken back yet."""
        self._past.go_back()

    def trial(self):
        """For a `with` statement: if its rows end with an exception, the desk is as it was when they began."""
        return Trial(self, self._past)

    def tried(self, action):
        """What the function returns for the desk, within a trial."""
        with self.trial() as same:
            return action(same)
