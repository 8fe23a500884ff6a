"""Consoles: a desk by lines."""

from restballots.blocs import margin, seat_range
from restballots.errors import (
    InvalidBloc, InvalidCounts, InvalidIndex, InvalidNumber, InvalidPiles, InvalidText, NothingToUndo,
)
from restballots.kinds import is_name
from restballots.live import Desk
from restballots.possible import possible
from restballots.results import results
from restballots.texts import number_in


def are_numbers(words):
    """Whether these are one or more words, each of them an integer."""
    return len(words) > 0 and all([number_in(word) is not None for word in words])


def are_names(words):
    """Whether these are one or more words, each of them a name."""
    return len(words) > 0 and all([is_name(word) for word in words])


def is_line(words):
    """Whether the words are a line that a console knows."""
    word, *more = words
    if word in ("undo", "piles", "tables", "result"):
        return len(more) == 0
    if word == "count":
        return are_numbers(more[:1]) and len(more[0]) == 1 and are_numbers(more[1:])
    if word == "add":
        return are_numbers(more[:1]) and are_names(more[1:])
    if word == "range":
        return are_names(more) and len(more) == 1
    if word == "margin":
        return are_names(more[:1]) and are_numbers(more[1:]) and len(more) == 2
    return False


def told_tables(tables):
    """The tables, each as its numbers with `-` between them, with spaces between them."""
    return " ".join(["-".join([str(own) for own in table]) for table in tables])


def told_sizes(piles):
    """The sizes of the piles, with spaces between them."""
    return " ".join([str(size) for size, _ in piles]) if len(piles) > 0 else "none"


def act(desk, words):
    """Does at the desk what the line says; whether it says something to be done."""
    word, *more = words
    if word == "count":
        desk.count(number_in(more[0]), tuple([number_in(own) for own in more[1:]]))
    elif word == "add":
        desk.add(number_in(more[0]), tuple(more[1:]))
    elif word == "undo":
        desk.undo()
    else:
        return False
    return True


def told(night, words):
    """What the line asks of the night."""
    word, *more = words
    if word == "piles":
        return told_sizes(night.piles)
    if word == "tables":
        return told_tables(possible(night))
    if word == "result":
        return told_tables(results(night))
    if word == "margin":
        return str(margin(night, (more[0],), number_in(more[1])))
    fewest, most = seat_range(night, (more[0],))
    return f"{fewest} {most}"


class Console:
    """A desk by lines."""

    def __init__(self, night):
        self._desk = Desk(night)

    @property
    def desk(self):
        """The desk."""
        return self._desk

    def say(self, line):
        """The answer to the line."""
        words = line.split(" ") if isinstance(line, str) else [""]
        if not is_line(words):
            raise InvalidText(line)
        try:
            return "ok" if act(self._desk, words) else told(self._desk.night, words)
        except InvalidIndex:
            return "InvalidIndex"
        except InvalidCounts:
            return "InvalidCounts"
        except InvalidPiles:
            return "InvalidPiles"
        except NothingToUndo:
            return "NothingToUndo"
        except InvalidBloc:
            return "InvalidBloc"
        except InvalidNumber:
            return "InvalidNumber"
