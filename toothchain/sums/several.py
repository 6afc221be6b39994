"""Sums for several numbers at once: three terms, divided numbers, rows of sums."""

from toothchain.base.integers import checked_from, checked_integer, checked_pair
from toothchain.base.ladders import check_coprime, inverse_or_none
from toothchain.base.ratios import ratio_of
from toothchain.errors import InvalidNumber, TooMany
from toothchain.sums.teeth import sum_of, sum_top

MAX_DIVIDED = 60

_MAX_ROW = 300


def three_terms(a, b, c):
    """Three sums, one for each of three integers of which any two are coprime."""
    one, two, three = _checked_three(a, b, c)
    return (
        sum_of(two * inverse_or_none(three, one), one),
        sum_of(three * inverse_or_none(one, two), two),
        sum_of(one * inverse_or_none(two, three), three),
    )


def three_total(a, b, c):
    """The total of the three terms, by the rule that they follow."""
    one, two, three = _checked_three(a, b, c)
    squares = one * one + two * two + three * three
    product = one * two * three
    return ratio_of(squares - 3 * product, 12 * product)


def divisors_of(number):
    """The divisors of a small number."""
    divided = _checked_divided(number)
    return _divisors(divided)


def divisor_sum(number):
    """The sum of the divisors of a small number."""
    divided = _checked_divided(number)
    return sum(_divisors(divided))


def divisor_pairs(number, a, b):
    """The pairs into which the divisors of a small number lead a pair."""
    divided = _checked_divided(number)
    first, second = checked_pair(a, b)
    return tuple([
        (divided // divisor * first + at * second, divisor * second)
        for divisor in _divisors(divided) for at in range(divisor)
    ])


def divisor_total(number, a, b):
    """The total of the sums of these pairs."""
    divided = _checked_divided(number)
    first, second = checked_pair(a, b)
    # By [6.2]; one sum takes less time than all of them.
    return sum_of(first, second) * sum(_divisors(divided))


def row_total(b, shift=0):
    """The total of s(a, b) s(a + shift, b) for all a below b."""
    bottom, distance = checked_from(1, b), checked_integer(shift)
    if bottom > _MAX_ROW:
        raise TooMany(_MAX_ROW)
    tops = [sum_top(a, bottom) for a in range(bottom)]
    products = [tops[a] * tops[(a + distance) % bottom] for a in range(bottom)]
    return ratio_of(sum(products), 144 * bottom * bottom)


def _checked_three(a, b, c):
    one, two, three = checked_from(1, a), checked_from(1, b), checked_from(1, c)
    check_coprime(one, two, three)
    return one, two, three


def _checked_divided(number):
    divided = checked_from(1, number)
    if divided > MAX_DIVIDED:
        raise InvalidNumber(number)
    return divided


def _divisors(number):
    return tuple([divisor for divisor in range(1, number + 1) if number % divisor == 0])
