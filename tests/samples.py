"""Values that several tests pass: wrong ones of every kind that [0.4] lists, and long ones."""

import math
import random

from toothchain.base.ladders import Ladder
from toothchain.base.ratios import Ratio
from toothchain.errors import InvalidNumber, InvalidOperation, TooMany

SIXTY = 10 ** 60 - 1
SIXTY_ONE = 10 ** 60

SMALL_PAIRS = [(a, b) for b in range(1, 16) for a in range(-b - 3, 3 * b + 3)]
LARGE_PAIRS = [
    (SIXTY, 1), (-SIXTY, 1), (0, SIXTY), (1, SIXTY), (-1, SIXTY), (SIXTY - 1, SIXTY), (SIXTY, SIXTY),
    (SIXTY, SIXTY - 1), (10 ** 59 + 7, 3 ** 125), (-(10 ** 59) - 7, 2 ** 199), (6 ** 70, 15 ** 50), (2, SIXTY),
]


def neighbors():
    """The pairs of neighbors in 1, 2, 3, 5, 8, .. up to sixty digits: they have the longest ladders."""
    one, other = 1, 2
    while other <= SIXTY:
        yield one, other
        one, other = other, one + other


LONGEST = list(neighbors())[-1]


def random_pairs(seed, many=10):
    source = random.Random(seed)
    for digits in (2, 3, 12, 30, 60):
        for _ in range(many):
            yield source.randrange(-(10 ** digits) + 1, 10 ** digits), source.randrange(1, 10 ** digits)


def coprime(pairs):
    return [(a, b) for a, b in pairs if math.gcd(a, b) == 1]


def nested(depth):
    value = ()
    for at in range(depth - 1):
        value = [value] if at % 2 else (value,)
    return value


def strings():
    printable = "".join(chr(code) for code in range(32, 127))
    return ["", "1", "-3/4", "a", "None", "True", "two\nlines\n", printable, "x" * 2000]


def containers():
    return [
        (), (1,), (1, 2), (True, None), ((1, 2), (3, 4)), [], [1], [1, 2], ["a", [1]], {}, {1: 2}, {"a": (1, [2])},
        {(1, 2): {}}, nested(8), (Ratio(1),), [Ladder(1, 2)], {1: Ratio(1, 2)},
    ]


def long_integers():
    return [SIXTY_ONE, -SIXTY_ONE, 10 ** 61 + 7, -(10 ** 75), 10 ** 900 - 1, 1 - 10 ** 900]


def plain_wrong_values():
    """What is neither an integer nor a ratio."""
    return [True, False, None, *strings(), *containers(), Ladder(17, 12), Ladder(0, 1)]


def not_numbers():
    return plain_wrong_values() + long_integers()


def not_integers():
    return not_numbers() + [Ratio(1), Ratio(0), Ratio(1, 2), Ratio(-7, 3), Ratio(SIXTY).power(2)]


def judged_values():
    """What is no certificate, of every kind that [0.4] lists."""
    return [0, 1, -1, SIXTY, ((),), ((1, 2, 3),), ((0, 1, 0, 1, 0, 1),), *not_integers()]


def refusal(call, *arguments, **keywords):
    """The error that a call raises, or None."""
    try:
        call(*arguments, **keywords)
    except Exception as error:
        return error
    return None


class Refusals:
    """What tests of wrong arguments share."""

    def assert_refused(self, kind, call, *arguments, **keywords):
        error = refusal(call, *arguments, **keywords)
        self.assertIs(type(error), kind, arguments)
        return error

    def assert_not_allowed(self, call, *arguments, **keywords):
        self.assert_refused(InvalidOperation, call, *arguments, **keywords)

    def assert_too_many(self, limit, call, *arguments, **keywords):
        """The call raises TooMany, which keeps the limit."""
        error = self.assert_refused(TooMany, call, *arguments, **keywords)
        self.assertEqual((error.limit, type(error.limit)), (limit, int))

    def assert_pair_is_checked(self, call, wrong_seconds=(0, -1, -SIXTY)):
        """Of a call with a pair in front: the first integer is checked before the second one."""
        for value in not_integers():
            self.assert_no_number(value, call, value, 5)
            self.assert_no_number(value, call, 5, value)
            self.assert_no_number(value, call, value, 0)
            self.assert_no_number(value, call, value, "b")
            self.assert_no_number("a", call, "a", value)
        for value in wrong_seconds:
            self.assert_no_number(value, call, 5, value)
        self.assert_no_number(True, call, b=0, a=True)

    def assert_no_number(self, given, call, *arguments, **keywords):
        """The call raises InvalidNumber, which keeps the very argument that was given."""
        error = self.assert_refused(InvalidNumber, call, *arguments, **keywords)
        self.assertIs(error.given, given)
