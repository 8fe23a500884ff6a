"""Tables by bounds for the seats of each party, where claims tell them.

Claims are integers here, one row of them for each party, as `claims_of` has them.
"""


def claim_at(claims, place):
    """The greatest one of all claims, or the one at this place behind it; 0 behind all of them."""
    ordered = sorted([claim for row in claims for claim in row], reverse=True)
    return ordered[place] if place < len(ordered) else 0


def seats_above(claims, price):
    """For each party how many of its claims are greater than the price."""
    return [len([claim for claim in row if claim > price]) for row in claims]


def seats_from(claims, price):
    """For each party how many of its claims are at least the price."""
    return [len([claim for claim in row if claim >= price]) for row in claims]


def tables_within(lows, highs, seats):
    """All tables of so many seats in which each party has at least its low and at most its high, ascending."""
    begun = [((), seats)]
    fewest = sum(lows)
    most = sum(highs)
    for low, high in zip(lows, highs):
        # The parties behind this one take at least so many of the seats that are left, and at most so many.
        fewest = fewest - low
        most = most - high
        begun = [
            (told + (own,), left - own)
            for told, left in begun
            for own in range(max(low, left - most), min(high, left - fewest) + 1)
        ]
    return tuple([told for told, _ in begun])


def tables_made(claims, seats):
    """All tables that give the seats to the greatest claims, ascending: each way that a lot can fall is one of them."""
    price = claim_at(claims, seats - 1)
    return tables_within(seats_above(claims, price), seats_from(claims, price), seats)


def tables_in_reach(claims, raised, seats):
    """Tables, ascending, among them all that are results of counts with these claims at least, and `raised` at most.

    The price of such a table is at least the greatest claim to a seat that is one too many, and at most that which the
    raised claims can still pay for all seats.
    """
    least = claim_at(claims, seats)
    greatest = claim_at(raised, seats - 1)
    return tables_within(seats_above(claims, greatest), seats_from(raised, least), seats)
