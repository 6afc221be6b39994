"""Totals of floors, remainders and teeth along lines."""

from math import gcd

from toothchain.base.integers import checked_from, checked_integer
from toothchain.base.ladders import inverse_or_none
from toothchain.base.ratios import ratio_of
from toothchain.errors import TooMany

_MAX_ROW = 2000


def line_sum(n, a, c, m):
    """The total of the floors of (a i + c)/m for i = 0, 1, .. , n - 1."""
    many, slope, start, bottom = _checked_line(n, a, c, m)
    return floor_total(many, slope, start, bottom)


def line_moment(n, a, c, m):
    """The total of i times these floors."""
    many, slope, start, bottom = _checked_line(n, a, c, m)
    return _floor_totals(many, slope, start, bottom)[1]


def line_square(n, a, c, m):
    """The total of the squares of these floors."""
    many, slope, start, bottom = _checked_line(n, a, c, m)
    return _floor_totals(many, slope, start, bottom)[2]


def line_row(n, a, c, m):
    """These floors, in order."""
    many, slope, start, bottom = _checked_line(n, a, c, m)
    if many > _MAX_ROW:
        raise TooMany(_MAX_ROW)
    return tuple([(slope * at + start) // bottom for at in range(many)])


def whole_steps(n, a, c, m):
    """How many of the fractions are integers."""
    many, slope, start, bottom = _checked_line(n, a, c, m)
    return _whole_steps(many, slope, start, bottom)


def rest_total(n, a, c, m):
    """The total of the remainders of a i + c on division by m."""
    many, slope, start, bottom = _checked_line(n, a, c, m)
    return _rest_total(many, slope, start, bottom)


def rest_square(n, a, c, m):
    """The total of the squares of these remainders."""
    many, slope, start, bottom = _checked_line(n, a, c, m)
    ones, indices, squares = _powers(many)
    plain, moment, square = _floor_totals(many, slope, start, bottom)
    products = slope * moment + start * plain
    whole = slope * slope * squares + 2 * slope * start * indices + start * start * ones
    return whole - 2 * bottom * products + bottom * bottom * square


def tooth_line(n, a, c, m):
    """The total of the teeth of these fractions."""
    many, slope, start, bottom = _checked_line(n, a, c, m)
    # Each tooth is its remainder over m less 1/2, but for an integer the 1/2 stays away.
    broken = many - _whole_steps(many, slope, start, bottom)
    return ratio_of(2 * _rest_total(many, slope, start, bottom) - broken * bottom, 2 * bottom)


def floor_total(n, a, c, m):
    """The total of the floors, for integers of any length."""
    result = 0
    while True:
        up, a = divmod(a, m)
        start, c = divmod(c, m)
        result = result + up * (n * (n - 1) // 2) + start * n
        # Below a line between 0 and its end there are as many points along one axis
        # as along the other one; this leads to ever shorter lines.
        n, c = divmod(a * n + c, m)
        if n == 0:
            return result
        a, m = m, a


def _checked_line(n, a, c, m):
    return checked_from(0, n), checked_integer(a), checked_integer(c), checked_from(1, m)


def _whole_steps(n, a, c, m):
    common = gcd(a, m)
    if c % common:
        return 0
    every = m // common
    first = -(c // common) * inverse_or_none(a // common, every) % every
    return (n - 1 - first) // every + 1


def _rest_total(n, a, c, m):
    ones, indices, _ = _powers(n)
    return a * indices + c * ones - m * floor_total(n, a, c, m)


def _powers(n):
    """The totals of 1, of i and of i i for i below n."""
    return n, n * (n - 1) // 2, n * (n - 1) * (2 * n - 1) // 6


def _floor_totals(n, a, c, m):
    """The totals of the floors, of i times them, and of their squares.

    Euclid's steps lead to ever shorter lines: what the floors of a flat line count
    along one axis, those of its mirror image count along the other one.
    """
    layers = []
    high = n
    while high > 0:
        up, a = divmod(a, m)
        start, c = divmod(c, m)
        high = (a * (n - 1) + c) // m
        layers.append((n, up, start, high))
        n, a, c, m = high, m, m - c - 1, a
    totals = (0, 0, 0)
    for many, up, start, top in layers[::-1]:
        totals = _lifted(many, up, start, _mirrored(many, top, totals))
    return totals


def _mirrored(n, high, totals):
    """The totals of a flat line from 0 or more up to `high`, from those of its mirror image."""
    plain, moment, square = totals
    ones = high * (n - 1)
    return ones - plain, (ones * n - square - plain) // 2, ones * high - 2 * moment - plain


def _lifted(n, up, start, totals):
    """The totals after `up i + start` is added to the floor of each i."""
    plain, moment, square = totals
    ones, indices, squares = _powers(n)
    added = up * up * squares + 2 * up * start * indices + start * start * ones
    return (
        plain + up * indices + start * ones,
        moment + up * squares + start * indices,
        square + 2 * up * moment + 2 * start * plain + added,
    )
