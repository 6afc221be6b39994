"""Exact fractions."""

from math import gcd

from toothchain.base.integers import integer_text, is_any_integer, is_short_integer
from toothchain.errors import InvalidNumber, InvalidRatio, ZeroDivisor

_MAX_EXPONENT = 40


class Terms:
    """A numerator and a denominator of at least 1, of any length, that the package itself computed.

    The package passes them where two integers of at most sixty digits may be passed only.
    """

    def __init__(self, above, below, lowest):
        self.above = above
        self.below = below
        self.lowest = lowest


class Ratio:
    """A fraction of two integers with a positive denominator; it never changes."""

    def __init__(self, top, bottom=1):
        terms = top if isinstance(top, Terms) else _checked_terms(top, bottom)
        self._top = terms.above
        self._bottom = terms.below
        # Lowest terms of sums take as long as a good part of the sum itself. So they are
        # worked out when they are asked for: to compare or to add does without them.
        self._is_lowest = terms.lowest

    @property
    def top(self):
        """The numerator in lowest terms."""
        return self._top if self._is_lowest else self._top // gcd(self._top, self._bottom)

    @property
    def bottom(self):
        """The denominator in lowest terms, at least 1."""
        return self._bottom if self._is_lowest else self._bottom // gcd(self._top, self._bottom)

    @property
    def floor(self):
        """The greatest integer that is not greater."""
        return self._top // self._bottom

    @property
    def part(self):
        """The ratio less its floor."""
        return Ratio(Terms(self._top % self._bottom, self._bottom, self._is_lowest))

    @property
    def is_whole(self):
        """Whether the ratio is an integer."""
        return self._top % self._bottom == 0

    def __add__(self, other):
        top, bottom = _plain_terms_of(other)
        return ratio_of(self._top * bottom + top * self._bottom, self._bottom * bottom)

    def __radd__(self, other):
        return self + other

    def __sub__(self, other):
        top, bottom = _plain_terms_of(other)
        return ratio_of(self._top * bottom - top * self._bottom, self._bottom * bottom)

    def __rsub__(self, other):
        return -self + other

    def __mul__(self, other):
        top, bottom = _plain_terms_of(other)
        return ratio_of(self._top * top, self._bottom * bottom)

    def __rmul__(self, other):
        return self * other

    def __neg__(self):
        return Ratio(Terms(-self._top, self._bottom, self._is_lowest))

    def __abs__(self):
        return Ratio(Terms(abs(self._top), self._bottom, self._is_lowest))

    def __bool__(self):
        return bool(self._top)

    def __eq__(self, other):
        if isinstance(other, Ratio):
            return self._top * other._bottom == other._top * self._bottom
        return is_any_integer(other) and self._top == other * self._bottom

    def __str__(self):
        return str(fraction_text(self.top, self.bottom))

    def compare(self, other):
        """-1, 0 or 1 if the ratio is less than the other number, equal to it, or greater."""
        top, bottom = _plain_terms_of(other)
        mine, theirs = self._top * bottom, top * self._bottom
        if mine == theirs:
            return 0
        return -1 if mine < theirs else 1

    def over(self, other):
        """The quotient of the ratio and the other number."""
        top, bottom = _plain_terms_of(other)
        return ratio_of(self._top * bottom, self._bottom * top)

    def power(self, exponent):
        """The product of as many factors that are this ratio, 1 for none."""
        if not is_short_integer(exponent) or not 0 <= exponent <= _MAX_EXPONENT:
            raise InvalidNumber(exponent)
        top, bottom = 1, 1
        for _ in range(exponent):
            top, bottom = top * self._top, bottom * self._bottom
        return Ratio(Terms(top, bottom, self._is_lowest))


def total(numbers):
    """The sum of a tuple of numbers, as a ratio."""
    if not isinstance(numbers, tuple):
        raise InvalidRatio("this is no tuple of numbers")
    result = Ratio(0)
    for number in numbers:
        result = result + number
    return result


def ratio_of(top, bottom):
    """The ratio of two integers of any length that the package itself computed."""
    return Ratio(_lowest_terms(top, bottom))


def unreduced_ratio(top, bottom):
    """The same for a denominator of at least 1; the lowest terms are worked out when they are asked for."""
    return Ratio(Terms(top, bottom, False))


def terms_of(number):
    """The numerator and the denominator of a number in lowest terms, or an error if it is none."""
    if isinstance(number, Ratio):
        return number.top, number.bottom
    return _plain_terms_of(number)


def fraction_text(top, bottom):
    """The text of a fraction in lowest terms."""
    if bottom == 1:
        return integer_text(top)
    return f"{integer_text(top)}/{integer_text(bottom)}"


def _plain_terms_of(number):
    """The same in any terms, which is enough to calculate."""
    if isinstance(number, Ratio):
        return number._top, number._bottom
    if is_short_integer(number):
        return number, 1
    raise InvalidRatio("this is no number")


def _checked_terms(top, bottom):
    if not is_short_integer(top) or not is_short_integer(bottom):
        raise InvalidRatio("a ratio has two integers of at most sixty digits")
    return _lowest_terms(top, bottom)


def _lowest_terms(top, bottom):
    common = gcd(top, bottom)
    if bottom > 0:
        return Terms(top // common, bottom // common, True)
    if bottom == 0:
        raise ZeroDivisor("no ratio has the denominator 0")
    return Terms(-top // common, -bottom // common, True)
