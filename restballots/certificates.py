"""Certificates: claims for the checker, each in a pair with what shows that it is true."""

from restballots.arguments import check_bloc, check_night, check_seats
from restballots.blocs import seat_range, seats_in
from restballots.groups import group_rooms
from restballots.possible import ballots_for, bar_of, barring
from restballots.prices import distance, least_price, needs
from restballots.pricing import counts_of, scale_of, step_from
from restballots.quotients import fraction
from restballots.rules import parting_counts


def steps_to_least(night, table):
    """Steps from the price 0 to the least price of the table."""
    scale = scale_of(night.divisors)
    counts = counts_of(night.parties)
    level = 0
    steps = []
    while (step := step_from(night.divisors, counts, table, level)) is not None:
        index, level = step
        steps.append((night.names[index], fraction(level, scale)))
    return tuple(steps)


def certify_table(night, table):
    """The claim that the table is possible, or that it is barred, and its certificate."""
    paper = ballots_for(night, table)
    if paper is not None:
        return ("can", str(night), table), paper
    return ("barred", str(night), table), barring(night, table)


def certify_bloc(night, bloc, seats):
    """The claim that the bloc is sure of so many seats, or never has them, and its certificate; None without either."""
    check_night(night)
    check_bloc(night, bloc)
    check_seats(night, seats)
    fewest, most = seat_range(night, bloc)
    if fewest < seats <= most:
        return None
    surely = fewest >= seats
    tables = night.tables()
    rooms = group_rooms(night.names, night.piles)
    papers = [
        (table, bar_of(night, table, rooms))
        for table, held in zip(tables, seats_in(night, bloc, tables))
        if (held < seats) == surely
    ]
    return ("sure" if surely else "never", str(night), bloc, seats), tuple(papers)


def certify_near(night, table):
    """The claim that as many ballots as the distance make the table a result, and its certificate."""
    needed = needs(night, table)
    more = tuple([need - count for need, count in zip(needed, counts_of(night.parties))])
    return ("near", str(night), table, sum(more)), (more, least_price(night, table))


def certify_far(night, table):
    """The claim that fewer ballots than the distance do not make the table a result, and its certificate."""
    far = distance(night, table)
    return ("far", str(night), table, far), steps_to_least(night, table)


def certify_rules(one, other, many):
    """The claim that the rows are alike, or that they part, and its certificate."""
    paper = parting_counts(one, other, many)
    if paper is None:
        return ("alike", one, other, many), ()
    return ("parted", one, other, many), paper
