"""Saw teeth, bends and the sums of products of teeth."""

from toothchain.base.integers import checked_from, checked_pair
from toothchain.base.ratios import ratio_of, terms_of, unreduced_ratio
from toothchain.errors import InvalidOperation, TooMany

MAX_PLAIN = 2000

# Python calculates quickly with integers below this one.
_SHORT = 2 ** 30


def tooth(number):
    """How far the number lies above the middle between two integers, 0 for an integer."""
    top, bottom = terms_of(number)
    return ratio_of(tooth_top(top, bottom), 2 * bottom)


def bend(number):
    """f f - f + 1/6, where f is the number less its floor."""
    top, bottom = terms_of(number)
    return ratio_of(bend_top(top, bottom), 6 * bottom * bottom)


def tooth_sum(a, b):
    """The sum s(a, b) of a pair."""
    first, second = checked_pair(a, b)
    return sum_of(first, second)


def tooth_row(a, b):
    """The products that the sum of a pair adds up."""
    first, second = checked_pair(a, b)
    if second > MAX_PLAIN:
        raise TooMany(MAX_PLAIN)
    return tuple([_product(at, first * at, second) for at in range(second)])


def greatest_sum(b):
    """The greatest sum of all pairs with this second integer."""
    second = checked_from(1, b)
    return ratio_of((second - 1) * (second - 2), 12 * second)


def ladder_sum(a, b):
    """Three parts that add up to twelve times the sum of a coprime pair."""
    first, second = checked_pair(a, b)
    rest = first % second
    alternating, factor, common, turn = _steps(second, rest)
    if common != 1:
        raise InvalidOperation("only the sum of coprime integers has these parts")
    return alternating, ratio_of(rest + factor, second), turn


def sum_of(a, b):
    """The sum s(a, b) of a pair of integers of any length."""
    return unreduced_ratio(sum_top(a, b), 12 * b)


def sum_top(a, b):
    """12 b s(a, b), an integer for each pair, of integers of any length."""
    rest = a % b
    if rest >= _SHORT:
        return _long_sum_top(b, rest)
    alternating, factor, common, turn = _steps(b, rest)
    return (alternating + turn) * b + rest + factor * common


def tooth_top(top, bottom):
    """The tooth of the fraction, times twice its denominator; no lowest terms are needed."""
    rest = top % bottom
    return 2 * rest - bottom if rest else 0


def bend_top(top, bottom):
    """The bend of the fraction, times six squares of its denominator; no lowest terms are needed."""
    rest = top % bottom
    return 6 * rest * (rest - bottom) + bottom * bottom


def _product(one, other, bottom):
    return ratio_of(tooth_top(one, bottom) * tooth_top(other, bottom), 4 * bottom * bottom)


def _steps(upper, lower):
    """Euclid's algorithm, as far as [0.10] needs it for lower/upper.

    It gives the alternating sum of the quotients, r or -r, the greatest common factor,
    and what is added at last. This factor is `lower` times r or -r, less a multiple of `upper`.
    """
    alternating, before, last = 0, 0, 1
    # Two steps at once, because the quotients change their signs in turn.
    while lower:
        up = upper // lower
        upper = upper % lower
        if not upper:
            return alternating + up, last, lower, -3
        before = before + up * last
        down = lower // upper
        lower = lower % upper
        last = last + down * before
        alternating = alternating + up - down
    return alternating, -before, upper, 0


def _long_sum_top(b, rest):
    """What `sum_top` gives for the pair (rest, b), faster for long integers."""
    # The upper digits of both integers are remainders. The lower ones are what `rest`
    # is multiplied by to get them, up to a multiple of b: so one division does for both.
    # They are too short to change a quotient, but if `upper` would get the remainder 0:
    # then this quotient is less by 1, and the next one is 1, which gives the same sum.
    bits = b.bit_length() + 2
    upper, lower = b << bits, (rest << bits) + 1
    alternating = 0
    end = _SHORT << bits
    while lower > end:
        up, upper = divmod(upper, lower)
        down, lower = divmod(lower, upper)
        alternating = alternating + up - down
    # Short remainders go on alone. What they add up to the common factor with, their
    # lower digits add up to `last` with.
    one, other = -(-upper >> bits), lower >> bits
    more, factor, common, turn = _steps(one, other)
    last = (common - factor * other) // one * upper + factor * lower - (common << bits)
    return (alternating + more + turn) * b + rest + last * common
