"""Moments of an object that changes, and trials: if one ends with an exception, what it did is taken back.

An object that has trials keeps all that changes in its attribute `moment`.
"""


class Moment:
    """What an object holds, and the moment before, to which it can be taken back; None if there is none."""

    def __init__(self, held, before):
        self.held = held
        self.before = before
        self.number = 0 if before is None else before.number + 1


class Entry:
    """How a trial stood when it was entered: the moment with which the entry around this one began, and that entry."""

    def __init__(self, begun, outer):
        self.begun = begun
        self.outer = outer


class Trial:
    """For a `with` statement; one object can be used several times, also within itself."""

    def __init__(self, owner):
        self._owner = owner
        self._begun = None
        self._entry = None

    def __enter__(self):
        self._entry = Entry(self._begun, self._entry)
        self._begun = self._owner.moment
        return self._owner

    def __exit__(self, kind, value, trace):
        if kind is not None:
            self._put_back()
        entry = self._entry
        self._begun = entry.begun
        self._entry = entry.outer

    def _put_back(self):
        owner = self._owner
        owner.moment = self._begun
