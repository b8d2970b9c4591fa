"""The refusals of the package: a class of its own for each kind."""


class RingError(ValueError):
    """What is refused because of what it is."""


class NoLog(RingError):
    """This makes no log: at is the number of the first row that is wrong, or None."""

    def __init__(self, at):
        self.at = at


class NoPair(RingError):
    """This is no pair, or none of the pairs that are asked for."""


class NoCard(RingError):
    """This is no card."""


class NoStretch(RingError):
    """This is no lag with a stretch of differences."""


class NoRow(RingError):
    """This makes no row."""


class Taken(RingError):
    """A row of this number is kept already."""


class NoText(RingError):
    """This text writes nothing of the kind: at is the number of the line that is wrong, or None."""

    def __init__(self, at):
        self.at = at


class NoLine(RingError):
    """This is no line that is told to a desk."""


class Unknown(KeyError):
    """There is nothing of this name."""

    def __init__(self, name):
        self.name = name


class NoNumber(IndexError):
    """This is no number that is asked for."""


class Nothing(IndexError):
    """There is nothing to take back or to do again."""


class Full(OverflowError):
    """There is no room for more."""


class Late(LookupError):
    """This row does not fit the kept row of this number."""

    def __init__(self, number):
        self.number = number
