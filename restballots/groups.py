"""Groups of parties, and what the piles have for them.

A group is an integer here: the party with the index i is in it if its bit with the number i is set. So a list with
one element for each group has that of the group with no party first, and that of all parties last.
"""


def group_of(names, chosen):
    """The group of the parties that are chosen, of those with these names."""
    return sum([1 << index for index, name in enumerate(names) if name in chosen])


def members(names, group):
    """The ascending tuple of the names of those in the group."""
    return tuple(sorted([name for index, name in enumerate(names) if group >> index & 1]))


def group_sums(numbers):
    """For each group the sum of the numbers of its parties."""
    sums = [0]
    for number in numbers:
        sums = sums + [smaller + number for smaller in sums]
    return sums


def group_rooms(names, piles):
    """For each group the sizes of all piles together that have one of its parties."""
    rows = [(size, group_of(names, chosen)) for size, chosen in piles]
    return [sum([size for size, own in rows if own & group]) for group in range(1 << len(names))]


def tight_rooms(rooms):
    """Pairs of a group and the room for it, the group of all parties last.

    These alone decide whether there is enough: a group is left out if there is no more room for it with a party more.
    """
    bits = [1 << index for index in range(len(rooms).bit_length() - 1)]
    return [
        (group, room)
        for group, room in enumerate(rooms)
        if all([group & bit or rooms[group | bit] > room for bit in bits])
    ]


def is_enough(lacks, tight):
    """Whether no group lacks more ballots than there is room for."""
    together = sum(lacks)
    if together == 0 or together > tight[-1][1]:
        return together == 0
    sums = group_sums(lacks)
    return all([sums[group] <= room for group, room in tight])


def short_group(lacks, rooms):
    """The first group that lacks more ballots than there is room for; None if there is none."""
    for group, lack in enumerate(group_sums(lacks)):
        if lack > rooms[group]:
            return group
    return None


def most_from(names, piles, lacks, index, name):
    """How many ballots the pile with this index can give this party at most, so that enough is left for all others."""
    own = group_of(names, (name,))
    whole = group_of(names, piles[index][1])
    rooms = group_rooms(names, piles)
    bounds = [piles[index][0], lacks[names.index(name)]]
    for group, lack in enumerate(group_sums(lacks)):
        if group & whole and not group & own:
            bounds.append(rooms[group] - lack)
    return min(bounds)


def dealt(names, piles, lacks):
    """Ballots that give each party just what it lacks, where there is enough for every group.

    What is given is the most that leaves enough, so no party needs more from a pile that it has been at.
    """
    ballots = []
    left = list(piles)
    lacking = list(lacks)
    for index, (_, chosen) in enumerate(piles):
        row = []
        for name in chosen:
            given = most_from(names, left, lacking, index, name)
            left[index] = (left[index][0] - given, chosen)
            place = names.index(name)
            lacking[place] = lacking[place] - given
            row.append(given)
        ballots.append(tuple(row))
    return tuple(ballots)
