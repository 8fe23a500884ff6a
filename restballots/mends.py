"""Demands on a night, and the least sets of changes after which they hold."""

from restballots.arguments import check_night
from restballots.demands import is_demand, is_met
from restballots.errors import (
    InvalidChanges, InvalidDemand, InvalidDemands, InvalidDivisors, InvalidParties, InvalidPiles,
)
from restballots.limits import MOST_CHANGES, MOST_DEMANDS
from restballots.nights import Night
from restballots.parts import names_a_part, with_change


def check_demands(night, demands):
    """Raises an error for what is no tuple of demands on the night."""
    if not isinstance(demands, tuple):
        raise InvalidDemands(None)
    for index, demand in enumerate(demands):
        if index == MOST_DEMANDS or not is_demand(night, demand):
            raise InvalidDemands(index)


def check_changes(night, changes):
    """Raises an error for what is no tuple of changes that name parts of the night, with any value."""
    if not isinstance(changes, tuple):
        raise InvalidChanges(None)
    parts = (night.divisors, night.parties, night.piles)
    for index, change in enumerate(changes):
        if index == MOST_CHANGES or not names_a_part(change, parts):
            raise InvalidChanges(index)


def night_behind(night, changes):
    """The night behind all these changes at once, None if there is none."""
    parts = (night.divisors, night.parties, night.piles)
    for change in changes:
        parts = with_change(parts, change)
    divisors, parties, piles = parts
    try:
        return Night(divisors, parties, piles)
    except (InvalidDivisors, InvalidParties, InvalidPiles):
        return None


def are_met(night, demands):
    """Whether all these demands hold."""
    for demand in demands:
        if not is_met(night, demand):
            return False
    return True


def does_mend(night, demands, changes):
    """Whether the changes are of unlike parts, and give a night on which all demands hold."""
    parts = [(what, index) for what, index, _ in changes]
    if len(set(parts)) < len(parts):
        return False
    behind = night_behind(night, changes)
    return behind is not None and are_met(behind, demands)


def sets_of_places(many):
    """All sets of so many places, each ascending; those with fewer places first, equally long ones ascending."""
    found = [()]
    for place in range(many):
        found = found + [places + (place,) for places in found]
    return sorted(found, key=lambda places: (len(places), places))


def has_part_in(found, places):
    """Whether one of the sets that are found is a part of this one."""
    return any([all([place in places for place in part]) for part in found])


def holds(night, demand):
    """Whether a demand on the night holds."""
    check_night(night)
    if not is_demand(night, demand):
        raise InvalidDemand(demand)
    return is_met(night, demand)


def mends(night, demands, changes):
    """All least sets of changes that mend the night for the demands, as places in `changes`."""
    check_night(night)
    check_demands(night, demands)
    check_changes(night, changes)
    found = []
    for places in sets_of_places(len(changes)):
        # Each proper part of a set stands ahead of it, so that none which mends is missed here.
        if not has_part_in(found, places) and does_mend(night, demands, [changes[place] for place in places]):
            found.append(places)
    return tuple(found)
