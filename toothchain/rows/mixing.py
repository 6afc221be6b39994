"""Mixing rows, which permute the integers below a modulus, and how evenly their pairs spread."""

from math import gcd

from toothchain.base.integers import checked_from, checked_integer, is_short_integer
from toothchain.base.ladders import check_coprime, inverse_or_none
from toothchain.base.ratios import ratio_of
from toothchain.errors import InvalidNumber, InvalidOperation, TooMany
from toothchain.sums.teeth import sum_top

MAX_CYCLE = 2000

_MAX_FLAT = 300


class MixingRow:
    """Sends each integer x below the modulus to the remainder of a x + c; it never changes."""

    def __init__(self, multiplier, addend, modulus):
        a, c, m = checked_integer(multiplier), checked_integer(addend), checked_from(1, modulus)
        check_coprime(a, m)
        self._multiplier = a % m
        self._addend = c % m
        self._modulus = m

    @property
    def multiplier(self):
        """The multiplier a, from 0 to m - 1."""
        return self._multiplier

    @property
    def addend(self):
        """The addend c, from 0 to m - 1."""
        return self._addend

    @property
    def modulus(self):
        """The modulus m."""
        return self._modulus

    @property
    def is_full(self):
        """Whether the cycle of 0 has all integers below the modulus."""
        return _is_full(self._multiplier, self._addend, self._modulus)

    def after(self, x):
        """The integer that x is sent to."""
        return (self._multiplier * self._checked_below(x) + self._addend) % self._modulus

    def before(self, x):
        """The integer that is sent to x."""
        inverse = inverse_or_none(self._multiplier, self._modulus)
        return (self._checked_below(x) - self._addend) * inverse % self._modulus

    def then(self, other):
        """The row that does this one first and then the other one."""
        if not isinstance(other, MixingRow) or other._modulus != self._modulus:
            raise InvalidOperation("only a row with the same modulus can follow")
        mine, theirs = (self._multiplier, self._addend), (other._multiplier, other._addend)
        return _row_of(_joined(mine, theirs, self._modulus), self._modulus)

    def inverse(self):
        """The row that sends back what this one has sent."""
        return _row_of(_opposite(self._multiplier, self._addend, self._modulus), self._modulus)

    def repeated(self, times):
        """The row that does this one so many times, or its inverse if times is negative."""
        many = checked_integer(times)
        step = (self._multiplier, self._addend)
        if many < 0:
            step = _opposite(self._multiplier, self._addend, self._modulus)
        return _row_of(_repeated(step, abs(many), self._modulus), self._modulus)

    def cycle(self, x):
        """The integers from x on until x comes again."""
        start = self._checked_below(x)
        if self._modulus > MAX_CYCLE:
            raise TooMany(MAX_CYCLE)
        found = [start]
        at = (self._multiplier * start + self._addend) % self._modulus
        while at != start:
            found.append(at)
            at = (self._multiplier * at + self._addend) % self._modulus
        return tuple(found)

    def pair_total(self):
        """The total of (x/m - 1/2)(y/m - 1/2) for all x, where x is sent to y."""
        return ratio_of(_pair_top(self._multiplier, self._addend, self._modulus), 12 * self._modulus)

    def correlation(self):
        """The correlation of x and y, where x is sent to y."""
        if self._modulus == 1:
            raise InvalidOperation("a single pair has no correlation")
        top = _pair_top(self._multiplier, self._addend, self._modulus)
        return ratio_of(top - 3, self._modulus * self._modulus - 1)

    def _checked_below(self, x):
        at = checked_from(0, x)
        if at >= self._modulus:
            raise InvalidNumber(x)
        return at

    def __eq__(self, other):
        if not isinstance(other, MixingRow) or self._modulus != other._modulus:
            return False
        return self._multiplier == other._multiplier and self._addend == other._addend

    def __str__(self):
        return f"x -> {self._multiplier} x + {self._addend} mod {self._modulus}"


def flattest(modulus, addend=0):
    """The multipliers below the modulus whose rows have the least absolute correlation."""
    m, c = checked_from(2, modulus), checked_integer(addend)
    if m > _MAX_FLAT:
        raise TooMany(_MAX_FLAT)
    distances = {a: abs(_pair_top(a, c % m, m) - 3) for a in range(m) if gcd(a, m) == 1}
    least = min(list(distances.values()))
    return tuple([a for a, distance in distances.items() if distance == least])


def least_vector(multiplier, modulus):
    """A shortest pair (u, v) of integers, not both 0, for which the modulus divides u + a v."""
    a, m = checked_integer(multiplier), checked_from(1, modulus)
    return _least_vector(a, m)


def is_least_vector(multiplier, modulus, value):
    """Whether the value is such a pair."""
    a, m = checked_integer(multiplier), checked_from(1, modulus)
    if not isinstance(value, tuple) or len(value) != 2:
        return False
    u, v = value
    if not is_short_integer(u) or not is_short_integer(v) or (u + a * v) % m != 0:
        return False
    return _square(value) == _square(_least_vector(a, m))


def least_square(multiplier, modulus):
    """The least u u + v v of these pairs."""
    a, m = checked_integer(multiplier), checked_from(1, modulus)
    return _square(_least_vector(a, m))


def _row_of(pair, modulus):
    return MixingRow(pair[0], pair[1], modulus)


def _joined(one, other, modulus):
    """The multiplier and the addend of doing both, the first one first."""
    (a, c), (b, d) = one, other
    return a * b % modulus, (b * c + d) % modulus


def _opposite(a, c, modulus):
    inverse = inverse_or_none(a, modulus)
    return inverse, -inverse * c % modulus


def _repeated(step, many, modulus):
    result = (1, 0)
    while many:
        many, odd = divmod(many, 2)
        if odd:
            result = _joined(result, step, modulus)
        step = _joined(step, step, modulus)
    return result


def _is_full(a, c, m):
    """What [12.3] says, without the prime factors of m."""
    if gcd(c, m) != 1 or (m % 4 == 0 and (a - 1) % 4 != 0):
        return False
    rest = m
    common = gcd(a - 1, rest)
    while common != 1:
        rest = rest // common
        common = gcd(common, rest)
    # All primes that divide a - 1 have been divided out.
    return rest == 1


def _pair_top(a, c, m):
    """12 m times the pair total, an integer, by [12.2]."""
    top = sum_top(a, m)
    if c == 0:
        return top + 3 * m
    sent_to_zero = -c * inverse_or_none(a, m) % m
    return top + _shift_top(a, c, m) - 6 * c - 6 * sent_to_zero + 6 * m


def _shift_top(a, c, m):
    """What a shift by c/m, which is not 0, adds to 12 m s(a, m), an integer.

    An exchange of such shifted sums [8.2] leaves the same exchange with the remainder of c
    and adds terms with the quotient; the squares of c in them make up a telescope.
    """
    upper, lower, before, last, sign = m, a, 0, 1, 1
    products, quotients = 0, 0
    while True:
        quotient, rest = divmod(c, lower)
        products = products + quotient * (c + rest) * last
        quotients = quotients + sign * quotient
        if rest == 0:
            return 6 * products + 3 * m * (sign - 2 * quotients)
        c, sign = rest, -sign
        quotient, rest = divmod(upper, lower)
        upper, lower = lower, rest
        before, last = last, before - quotient * last


def _least_vector(a, m):
    one, other = (m, 0), (a % m, -1)
    # Half of Euclid's steps lead near a shortest pair.
    while other[0] * other[0] > m:
        times = one[0] // other[0]
        one, other = other, _less(one, times, other)
    while True:
        square = _square(other)
        times = (2 * (one[0] * other[0] + one[1] * other[1]) + square) // (2 * square)
        one, other = other, _less(one, times, other)
        if _square(other) >= square:
            return one


def _less(one, times, other):
    return one[0] - times * other[0], one[1] - times * other[1]


def _square(pair):
    return pair[0] * pair[0] + pair[1] * pair[1]
