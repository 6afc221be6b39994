"""Integers that two step sizes reach, and the gaps that they leave."""

from math import isqrt

from toothchain.base.integers import checked_from, checked_integer
from toothchain.base.ladders import check_coprime, inverse_or_none
from toothchain.counts.points import points_up_to
from toothchain.errors import InvalidNumber, InvalidOperation, TooMany

MAX_LIST = 2000


def reaches(a, b, number):
    """Whether a x + b y is the integer for some x and y of at least 0."""
    first, second, wanted = _checked_steps_to(a, b, number)
    return _least_steps(first, second, wanted) * first <= wanted


def ways(a, b, number):
    """How many such pairs (x, y) there are."""
    first, second, wanted = _checked_steps_to(a, b, number)
    return _many_ways(first, second, wanted, _least_steps(first, second, wanted))


def all_ways(a, b, number):
    """These pairs, in ascending order."""
    first, second, wanted = _checked_steps_to(a, b, number)
    least = _least_steps(first, second, wanted)
    many = _many_ways(first, second, wanted, least)
    if many > MAX_LIST:
        raise TooMany(MAX_LIST)
    rest = (wanted - least * first) // second
    return tuple([(least + at * second, rest - at * first) for at in range(many)])


def gap_count(a, b):
    """How many integers of at least 0 are not reached."""
    first, second = _checked_steps(a, b)
    return _gap_count(first, second)


def gap_total(a, b):
    """The sum of the integers of at least 0 that are not reached."""
    first, second = _checked_steps(a, b)
    return (first - 1) * (second - 1) * (2 * first * second - first - second - 1) // 12


def last_gap(a, b):
    """The greatest integer that is not reached."""
    first, second = _checked_steps(a, b)
    if first == 1 or second == 1:
        raise InvalidOperation("a step size of 1 leaves no gap")
    return _last_gap(first, second)


def gaps_below(a, b, limit):
    """How many integers of at least 0 and below the limit are not reached."""
    first, second, end = _checked_steps_to(a, b, limit)
    return _gaps_below(first, second, end)


def gap_at(a, b, index):
    """The gap with this index, from 0, in ascending order."""
    first, second = checked_from(1, a), checked_from(1, b)
    before = checked_from(0, index)
    check_coprime(first, second)
    if before >= _gap_count(first, second):
        raise InvalidNumber(index)
    low, high = _gap_bounds(first, second, before)
    while low < high:
        middle = (low + high) // 2
        if _gaps_below(first, second, middle + 1) > before:
            high = middle
        else:
            low = middle + 1
    return low


def all_gaps(a, b):
    """All gaps, in ascending order."""
    first, second = _checked_steps(a, b)
    if _gap_count(first, second) > MAX_LIST:
        raise TooMany(MAX_LIST)
    # There are at most about twice as many integers up to the last gap as there are gaps.
    inverse = inverse_or_none(first, second)
    return tuple([n for n in range(_last_gap(first, second) + 1) if n * inverse % second * first > n])


def _checked_steps(a, b):
    first, second = checked_from(1, a), checked_from(1, b)
    check_coprime(first, second)
    return first, second


def _checked_steps_to(a, b, number):
    first, second, wanted = checked_from(1, a), checked_from(1, b), checked_integer(number)
    check_coprime(first, second)
    return first, second, wanted


def _least_steps(a, b, number):
    """The least x of at least 0 for which b divides the number less a x."""
    return number * inverse_or_none(a, b) % b


def _many_ways(a, b, number, least):
    rest = number - least * a
    return rest // (a * b) + 1 if rest >= 0 else 0


def _gap_count(a, b):
    return (a - 1) * (b - 1) // 2


def _last_gap(a, b):
    return a * b - a - b


def _gaps_below(a, b, limit):
    if limit > _last_gap(a, b):
        return _gap_count(a, b)
    # Up to the last gap each integer is reached in one way at most [11.2].
    return limit - points_up_to(a, b, limit - 1) if limit > 0 else 0


def _gap_bounds(a, b, index):
    """Two integers between which the gap with this index lies."""
    # Below n there are about n - n (n + a + b)/(2 a b) gaps.
    middle, square = _last_gap(a, b) + a + b - (a + b) // 2, 2 * a * b * (index + 1)
    near = middle - isqrt(max(0, middle * middle - square))
    width = 16 * a * b // (a * b - near) + 16
    low = high = near
    while _gaps_below(a, b, low) > index:
        low, width = low - width, 2 * width
    while _gaps_below(a, b, high + 1) <= index:
        high, width = high + width, 2 * width
    return low, high
