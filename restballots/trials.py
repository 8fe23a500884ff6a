"""What an object holds, moment by moment, and trials: if one ends with an exception, what it did is taken back."""

from restballots.errors import NothingToUndo


class Moment:
    """What an object holds, and the moment before, to which it can be taken back; None if there is none."""

    def __init__(self, held, before):
        self.held = held
        self.before = before
        self.number = 0 if before is None else before.number + 1


class Past:
    """The moment in which an object is, with those before it."""

    def __init__(self, held):
        # An `__exit__` takes no item out of a row, so a trial puts its row of moments here, and a place in it.
        self.moments = (Moment(held, None),)
        self.place = 0

    def moment(self):
        """The moment that is now."""
        return self.moments[self.place]

    def now(self):
        """What the object holds now."""
        return self.moment().held

    def go_on(self, held):
        """From now on the object holds this."""
        self._move(Moment(held, self.moment()))

    def go_back(self):
        """The object is again in the moment before."""
        before = self.moment().before
        if before is None:
            raise NothingToUndo()
        self._move(before)

    def _move(self, moment):
        self.moments = (moment,)
        self.place = 0


class Trial:
    """For a `with` statement; one object can be used several times, also within itself."""

    def __init__(self, owner, past):
        self._owner = owner
        self._past = past
        self._begun = ()
        self._depth = 0

    def __enter__(self):
        # Behind the depth stand the beginnings of rows that have ended.
        self._begun = self._begun[:self._depth] + (self._past.moment(),)
        self._depth = self._depth + 1
        return self._owner

    def __exit__(self, kind, value, trace):
        past = self._past
        self._depth -= 1
        if kind is not None:
            past.moments = self._begun
            past.place = self._depth
