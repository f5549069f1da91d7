"""The errors that the package raises, each under its one base class."""


class WrongValue(ValueError):
    """A value was passed that is not of the kind that the call takes."""


class InvalidText(WrongValue):
    """A value that is not the text of a set of hours."""

    def __init__(self, given):
        self.given = given


class InvalidNumber(WrongValue):
    """A value that is no integer, or a smaller one than the call takes."""

    def __init__(self, given):
        self.given = given


class InvalidHour(WrongValue):
    """A value that is no hour of the clock."""

    def __init__(self, given):
        self.given = given


class InvalidIndex(WrongValue):
    """A value that is no index of a promise."""

    def __init__(self, given):
        self.given = given


class NotHours(WrongValue):
    """A value that is no set of hours."""

    def __init__(self, given):
        self.given = given


class OtherClock(WrongValue):
    """A set on another clock, told by the number of that clock's hours."""

    def __init__(self, given):
        self.given = given


class InvalidHours(WrongValue):
    """No ascending tuple of hours; the index is None for what is no tuple."""

    def __init__(self, index):
        self.index = index


class NoAnswer(ArithmeticError):
    """The values are of the right kind, but the call has no answer for them."""


class TooMany(NoAnswer):
    """A number that is greater than the call takes."""

    def __init__(self, number):
        self.number = number


class Empty(NoAnswer):
    """A set without hours where the answer needs some."""


class Broken(NoAnswer):
    """A promise would fail, told by its index."""

    def __init__(self, index):
        self.index = index


class NothingToUndo(NoAnswer):
    """No change is left that could be taken back."""
