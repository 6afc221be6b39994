"""Exact fractions."""

from math import gcd

from toothchain.base.integers import integer_text, is_any_integer, is_short_integer
from toothchain.errors import InvalidNumber, InvalidRatio, ZeroDivisor

_MAX_EXPONENT = 40


class LowestTerms:
    """A numerator and a denominator that the package itself computed, in lowest terms and of any length.

    The package passes them where two integers of at most sixty digits may be passed only.
    """

    def __init__(self, above, below):
        self.above = above
        self.below = below


class Ratio:
    """A fraction of two integers in lowest terms with a positive denominator; it never changes."""

    def __init__(self, top, bottom=1):
        terms = top if isinstance(top, LowestTerms) else _checked_terms(top, bottom)
        self._top = terms.above
        self._bottom = terms.below

    @property
    def top(self):
        """The numerator in lowest terms."""
        return self._top

    @property
    def bottom(self):
        """The denominator in lowest terms, at least 1."""
        return self._bottom

    @property
    def floor(self):
        """The greatest integer that is not greater."""
        return self._top // self._bottom

    @property
    def part(self):
        """The ratio less its floor."""
        return Ratio(LowestTerms(self._top % self._bottom, self._bottom))

    @property
    def is_whole(self):
        """Whether the ratio is an integer."""
        return self._bottom == 1

    def __add__(self, other):
        top, bottom = terms_of(other)
        return ratio_of(self._top * bottom + top * self._bottom, self._bottom * bottom)

    def __radd__(self, other):
        return self + other

    def __sub__(self, other):
        top, bottom = terms_of(other)
        return ratio_of(self._top * bottom - top * self._bottom, self._bottom * bottom)

    def __rsub__(self, other):
        return -self + other

    def __mul__(self, other):
        top, bottom = terms_of(other)
        return ratio_of(self._top * top, self._bottom * bottom)

    def __rmul__(self, other):
        return self * other

    def __neg__(self):
        return Ratio(LowestTerms(-self._top, self._bottom))

    def __abs__(self):
        return Ratio(LowestTerms(abs(self._top), self._bottom))

    def __bool__(self):
        return bool(self._top)

    def __eq__(self, other):
        if isinstance(other, Ratio):
            return self._top == other._top and self._bottom == other._bottom
        return is_any_integer(other) and self._bottom == 1 and self._top == other

    def __str__(self):
        return str(fraction_text(self._top, self._bottom))

    def compare(self, other):
        """-1, 0 or 1 if the ratio is less than the other number, equal to it, or greater."""
        top, bottom = terms_of(other)
        mine, theirs = self._top * bottom, top * self._bottom
        if mine == theirs:
            return 0
        return -1 if mine < theirs else 1

    def over(self, other):
        """The quotient of the ratio and the other number."""
        top, bottom = terms_of(other)
        return ratio_of(self._top * bottom, self._bottom * top)

    def power(self, exponent):
        """The product of as many factors that are this ratio, 1 for none."""
        if not is_short_integer(exponent) or not 0 <= exponent <= _MAX_EXPONENT:
            raise InvalidNumber(exponent)
        top, bottom = 1, 1
        for _ in range(exponent):
            top, bottom = top * self._top, bottom * self._bottom
        return Ratio(LowestTerms(top, bottom))


def total(numbers):
    """The sum of a tuple of numbers, as a ratio."""
    if not isinstance(numbers, tuple):
        raise InvalidRatio("this is no tuple of numbers")
    result = Ratio(0)
    for number in numbers:
        result = result + number
    return result


def ratio_of(top, bottom):
    """The ratio of two integers of any length that the package itself computed."""
    if bottom <= 0:
        return Ratio(_lowest_terms(top, bottom))
    # Nearly all ratios come this way, so this does without another call.
    common = gcd(top, bottom)
    return Ratio(LowestTerms(top // common, bottom // common))


def terms_of(number):
    """The numerator and the denominator of a number, or an error if it is none."""
    if isinstance(number, Ratio):
        return number._top, number._bottom
    if is_short_integer(number):
        return number, 1
    raise InvalidRatio("this is no number")


def fraction_text(top, bottom):
    """The text of a fraction in lowest terms."""
    if bottom == 1:
        return integer_text(top)
    return f"{integer_text(top)}/{integer_text(bottom)}"


def _checked_terms(top, bottom):
    if not is_short_integer(top) or not is_short_integer(bottom):
        raise InvalidRatio("a ratio has two integers of at most sixty digits")
    return _lowest_terms(top, bottom)


def _lowest_terms(top, bottom):
    common = gcd(top, bottom)
    if bottom < 0:
        return LowestTerms(-top // common, -bottom // common)
    if bottom == 0:
        raise ZeroDivisor("no ratio has the denominator 0")
    return LowestTerms(top // common, bottom // common)
