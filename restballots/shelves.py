"""Shelves: nights under names, and demands that hold on them."""

from restballots.arguments import check_night
from restballots.demands import are_of_one_kind, have_the_same_possible, is_demand, is_met, is_some_demand
from restballots.errors import Broken, InUse, InvalidDemand, InvalidIndex, InvalidName, UnknownName
from restballots.kinds import is_index, is_name, is_tuple_of
from restballots.trials import Past, Trial


def has_form(demand):
    """Whether the value is a demand on a shelf, whatever stands there."""
    if is_tuple_of(demand, 2):
        return is_name(demand[0]) and is_some_demand(demand[1])
    # Only strings are compared: a foreign object could call itself equal to a word.
    if not is_tuple_of(demand, 3) or not isinstance(demand[0], str):
        return False
    return demand[0] == "alike" and is_name(demand[1]) and is_name(demand[2])


def names_in(demand):
    """The names A and B of a demand on a shelf."""
    return demand[:1] if len(demand) == 2 else demand[1:]


def is_kept(nights, demand):
    """Whether the demand holds with these nights."""
    if len(demand) == 2:
        name, told = demand
        return is_demand(nights[name], told) and is_met(nights[name], told)
    one, other = [nights[name] for name in names_in(demand)]
    return are_of_one_kind(one, other) and have_the_same_possible(one, other)


def is_known(nights, name):
    """Whether there is a night under this name, which can be any value."""
    return isinstance(name, str) and name in nights


def check_known(nights, name):
    """Raises an error if there is nothing under this name."""
    if not is_known(nights, name):
        raise UnknownName(name)


class Shelf:
    """Nights under names, with a row of demands."""

    def __init__(self):
        self._past = Past(({}, ()))

    @property
    def names(self):
        """The names under which nights stand, ascending."""
        nights, _ = self._past.now()
        return tuple(sorted(list(nights)))

    @property
    def demands(self):
        """The demands, in their order."""
        _, demands = self._past.now()
        return demands

    @property
    def changes(self):
        """How many changes can be taken back."""
        return self._past.moment().number

    def __len__(self):
        return len(self._past.now()[0])

    def __bool__(self):
        return True

    def __iter__(self):
        raise TypeError("a shelf is not iterated over")

    def __contains__(self, value):
        nights, _ = self._past.now()
        return is_known(nights, value)

    def __getitem__(self, name):
        nights, _ = self._past.now()
        check_known(nights, name)
        return nights[name]

    def __setitem__(self, name, night):
        if not is_name(name):
            raise InvalidName(name)
        check_night(night)
        nights, demands = self._past.now()
        later = dict(nights)
        later[name] = night
        for index, demand in enumerate(demands):
            # The demands on other nights hold as they did.
            if name in names_in(demand) and not is_kept(later, demand):
                raise Broken(index)
        self._past.go_on((later, demands))

    def remove(self, name):
        """Takes the night under this name away."""
        nights, demands = self._past.now()
        check_known(nights, name)
        for index, demand in enumerate(demands):
            if name in names_in(demand):
                raise InUse(index)
        later = dict(nights)
        del later[name]
        self._past.go_on((later, demands))

    def ask(self, demand):
        """Puts a demand more behind the others."""
        nights, demands = self._past.now()
        if not has_form(demand):
            raise InvalidDemand(demand)
        for name in names_in(demand):
            check_known(nights, name)
        if not is_kept(nights, demand):
            raise Broken(len(demands))
        self._past.go_on((nights, demands + (demand,)))

    def lift(self, index):
        """Takes a demand away."""
        nights, demands = self._past.now()
        if not is_index(index, len(demands)):
            raise InvalidIndex(index)
        self._past.go_on((nights, demands[:index] + demands[index + 1:]))

    def undo(self):
        """Takes back the last change that is not taken back yet."""
        self._past.go_back()

    def trial(self):
        """For a `with` statement: if its rows end with an exception, the shelf is as it was when they began."""
        return Trial(self, self._past)

    def tried(self, action):
        """What the function returns for the shelf, within a trial."""
        with self.trial() as same:
            return action(same)
