"""All errors of the package: three base classes, and one class for each kind of failure."""


class BadValue(ValueError):
    """A value that was passed is not right."""


class InvalidText(BadValue):
    """`given` is no text that can be read here."""

    def __init__(self, given):
        self.given = given


class InvalidDivisors(BadValue):
    """`given` is no divisors."""

    def __init__(self, given):
        self.given = given


class InvalidTable(BadValue):
    """`given` is no table of the night."""

    def __init__(self, given):
        self.given = given


class InvalidBloc(BadValue):
    """`given` is no bloc of the night."""

    def __init__(self, given):
        self.given = given


class InvalidNumber(BadValue):
    """`given` is no integer within the bounds."""

    def __init__(self, given):
        self.given = given


class InvalidIndex(BadValue):
    """`given` is no index of these things."""

    def __init__(self, given):
        self.given = given


class InvalidName(BadValue):
    """`given` is no name."""

    def __init__(self, given):
        self.given = given


class InvalidCounts(BadValue):
    """`given` is no ballots of the pile, or a count would be too great with them."""

    def __init__(self, given):
        self.given = given


class InvalidChange(BadValue):
    """`given` is no change of the night, or gives no night."""

    def __init__(self, given):
        self.given = given


class InvalidDemand(BadValue):
    """`given` is no demand."""

    def __init__(self, given):
        self.given = given


class NotANight(BadValue):
    """`given` is no Night."""

    def __init__(self, given):
        self.given = given


class OtherSeats(BadValue):
    """`given` has another number of seats than the row beside it."""

    def __init__(self, given):
        self.given = given


class InvalidParties(BadValue):
    """The element with the index `index` is not right among the parties."""

    def __init__(self, index):
        self.index = index


class InvalidPiles(BadValue):
    """The element with the index `index` is not right among the piles."""

    def __init__(self, index):
        self.index = index


class InvalidChanges(BadValue):
    """The element with the index `index` is not right among the changes."""

    def __init__(self, index):
        self.index = index


class InvalidDemands(BadValue):
    """The element with the index `index` is not right among the demands."""

    def __init__(self, index):
        self.index = index


class BadName(LookupError):
    """A name is not there, or cannot be taken away."""


class UnknownName(BadName):
    """There is nothing under the name `given`."""

    def __init__(self, given):
        self.given = given


class InUse(BadName):
    """The demand with the index `index` needs the name."""

    def __init__(self, index):
        self.index = index


class NoAnswer(ArithmeticError):
    """What was asked for cannot be done now."""


class NothingToUndo(NoAnswer):
    """There is nothing that could be taken back."""


class Broken(NoAnswer):
    """The demand with the index `index` would not hold."""

    def __init__(self, index):
        self.index = index
