"""Desks: nights that are counted pile by pile."""

from restballots.arguments import check_night
from restballots.errors import NothingToUndo
from restballots.nights import Night
from restballots.possible import possible
from restballots.trials import Moment, Trial


class Desk:
    """A night that is counted pile by pile."""

    def __init__(self, night):
        check_night(night)
        self._first = night
        self.moment = Moment(night, None)

    @property
    def night(self):
        """The night as it is now."""
        return self.moment.held

    @property
    def still(self):
        """The number of tables that are still possible."""
        return len(possible(self.moment.held))

    @property
    def first(self):
        """The night that the desk began with."""
        return self._first

    def __len__(self):
        return len(self.moment.held.piles)

    def __bool__(self):
        return True

    def count(self, index, ballots):
        """Counts one of the piles that are left, and takes it out."""
        self.moment = Moment(self.moment.held.counted(index, ballots), self.moment)

    def add(self, size, names):
        """Puts a pile more behind the others."""
        now = self.moment.held
        # The piles that are left are right, so an error tells the index of the new one.
        night = Night(now.divisors, now.parties, now.piles + ((size, names),))
        self.moment = Moment(night, self.moment)

    def undo(self):
        """Takes back the last call of the two above that is not taken back yet."""
        before = self.moment.before
        if before is None:
            raise NothingToUndo()
        self.moment = before

    def trial(self):
        """For a `with` statement: if its rows end with an exception, the desk is as it was when they began."""
        return Trial(self)

    def tried(self, action):
        """What the function returns for the desk, within a trial."""
        with self.trial() as same:
            return action(same)
