"""The errors of the package."""


class ToothError(ValueError):
    """What the package refuses for its form or its meaning."""


class InvalidRatio(ToothError):
    """A value that is no number, or from which no fraction can be made."""


class InvalidTurn(ToothError):
    """A value that is no turn."""


class InvalidWord(ToothError):
    """A value that is no word."""


class InvalidName(ToothError):
    """A value that is no name."""


class InvalidOperation(ToothError):
    """A request that the given values do not allow."""


class ParseError(ToothError):
    """A text that cannot be read; `at` is the index of the piece that fails, or None."""

    def __init__(self, at):
        super().__init__("the text cannot be read")
        self.at = at


class InvalidNumber(IndexError):
    """An integer that is wanted is missing or out of its range; `given` came instead."""

    def __init__(self, given):
        super().__init__("this is no integer in the range that is wanted")
        self.given = given


class UnknownName(KeyError):
    """Nothing has the name `wanted`."""

    def __init__(self, wanted):
        super().__init__("nothing has this name")
        self.wanted = wanted


class NothingToUndo(LookupError):
    """There are fewer than `many` steps to take back or to make again."""

    def __init__(self, many):
        super().__init__("there are not so many steps")
        self.many = many


class TooMany(OverflowError):
    """More than `limit` entries would be needed."""

    def __init__(self, limit):
        super().__init__("this is more than the limit")
        self.limit = limit


class Refused(ArithmeticError):
    """A change that would break `claim`."""

    def __init__(self, claim):
        super().__init__("a claim would not hold any more")
        self.claim = claim


class ZeroDivisor(ZeroDivisionError):
    """A division by zero."""
