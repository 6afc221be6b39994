"""Saw teeth, bends and the sums of products of teeth."""

from math import gcd

from toothchain.base.integers import Long, checked_from, checked_pair
from toothchain.base.ladders import Ladder
from toothchain.base.ratios import ratio_of, terms_of
from toothchain.errors import InvalidOperation, TooMany

MAX_PLAIN = 2000


def tooth(number):
    """How far the number lies above the middle between two integers, 0 for an integer."""
    top, bottom = terms_of(number)
    return ratio_of(tooth_top(top, bottom), 2 * bottom)


def bend(number):
    """f f - f + 1/6, where f is the number less its floor."""
    top, bottom = terms_of(number)
    return ratio_of(bend_top(top, bottom), 6 * bottom * bottom)


def tooth_sum(a, b):
    """The sum s(a, b) of a pair."""
    first, second = checked_pair(a, b)
    return sum_of(first, second)


def tooth_row(a, b):
    """The products that the sum of a pair adds up."""
    first, second = checked_pair(a, b)
    if second > MAX_PLAIN:
        raise TooMany(MAX_PLAIN)
    return tuple([_product(at, first * at, second) for at in range(second)])


def greatest_sum(b):
    """The greatest sum of all pairs with this second integer."""
    second = checked_from(1, b)
    return ratio_of((second - 1) * (second - 2), 12 * second)


def ladder_sum(a, b):
    """Three parts that add up to twelve times the sum of a coprime pair."""
    first, second = checked_pair(a, b)
    if gcd(first, second) != 1:
        raise InvalidOperation("only the sum of coprime integers has these parts")
    alternating, top, turn = _parts_of(first, second)
    return alternating, ratio_of(top, second), turn


def sum_of(a, b):
    """The sum s(a, b) of a pair of integers of any length."""
    common = gcd(a, b)
    bottom = b // common
    alternating, top, turn = _parts_of(a // common, bottom)
    return ratio_of((alternating + turn) * bottom + top, 12 * bottom)


def tooth_top(top, bottom):
    """The tooth of the fraction, times twice its denominator; no lowest terms are needed."""
    rest = top % bottom
    return 2 * rest - bottom if rest else 0


def bend_top(top, bottom):
    """The bend of the fraction, times six squares of its denominator; no lowest terms are needed."""
    rest = top % bottom
    return 6 * rest * (rest - bottom) + bottom * bottom


def _product(one, other, bottom):
    return ratio_of(tooth_top(one, bottom) * tooth_top(other, bottom), 4 * bottom * bottom)


def _parts_of(a, b):
    """The parts of [0.10] for a coprime pair, the middle one times b."""
    rest = a % b
    if rest == 0:
        return 0, 0, 0
    ladder = Ladder(Long(rest), Long(b))
    inverse = ladder.coprime_inverse
    # By [2.1] the denominator r of [0.10] is the inverse or its opposite, in turn.
    if len(ladder) % 2 == 0:
        return ladder.alternating, rest + inverse, -3
    return ladder.alternating, rest + inverse - b, 0
