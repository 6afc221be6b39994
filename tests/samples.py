"""Values that several tests pass: wrong ones of every kind that [0.4] lists, and long ones."""

from toothchain.base.ladders import Ladder
from toothchain.base.ratios import Ratio
from toothchain.errors import InvalidNumber

SIXTY = 10 ** 60 - 1
SIXTY_ONE = 10 ** 60


def nested(depth):
    value = ()
    for at in range(depth - 1):
        value = [value] if at % 2 else (value,)
    return value


def strings():
    printable = "".join(chr(code) for code in range(32, 127))
    return ["", "1", "-3/4", "a", "None", "True", "two\nlines\n", printable, "x" * 2000]


def containers():
    return [
        (), (1,), (1, 2), (True, None), ((1, 2), (3, 4)), [], [1], [1, 2], ["a", [1]], {}, {1: 2}, {"a": (1, [2])},
        {(1, 2): {}}, nested(8), (Ratio(1),), [Ladder(1, 2)], {1: Ratio(1, 2)},
    ]


def long_integers():
    return [SIXTY_ONE, -SIXTY_ONE, 10 ** 61 + 7, -(10 ** 75), 10 ** 900 - 1, 1 - 10 ** 900]


def plain_wrong_values():
    """What is neither an integer nor a ratio."""
    return [True, False, None, *strings(), *containers(), Ladder(17, 12), Ladder(0, 1)]


def not_numbers():
    return plain_wrong_values() + long_integers()


def not_integers():
    return not_numbers() + [Ratio(1), Ratio(0), Ratio(1, 2), Ratio(-7, 3), Ratio(SIXTY).power(2)]


def refusal(call, *arguments, **keywords):
    """The error that a call raises, or None."""
    try:
        call(*arguments, **keywords)
    except Exception as error:
        return error
    return None


class Refusals:
    """What tests of wrong arguments share."""

    def assert_refused(self, kind, call, *arguments, **keywords):
        error = refusal(call, *arguments, **keywords)
        self.assertIs(type(error), kind, arguments)
        return error

    def assert_no_number(self, given, call, *arguments, **keywords):
        """The call raises InvalidNumber, which keeps the very argument that was given."""
        error = self.assert_refused(InvalidNumber, call, *arguments, **keywords)
        self.assertIs(error.given, given)
