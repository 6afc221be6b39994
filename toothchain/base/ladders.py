"""Euclid's algorithm for pairs."""

from math import gcd

from toothchain.base.integers import Long, checked_integer, checked_pair, integer_text, is_short_integer
from toothchain.errors import InvalidNumber, InvalidOperation

_MAX_QUOTIENTS = 300
_TOO_LONG_QUOTIENT = 10 ** 12


class Ladder:
    """The steps of Euclid's algorithm for a pair; a ladder never changes."""

    def __init__(self, a, b):
        self._a, self._b = checked_pair(a, b)
        self._quotients, self._remainders = _euclid_steps(self._a, self._b)

    @property
    def a(self):
        """The first integer of the pair."""
        return self._a

    @property
    def b(self):
        """The second integer of the pair."""
        return self._b

    @property
    def quotients(self):
        """The quotients of all steps, in order."""
        return self._quotients

    @property
    def remainders(self):
        """b and all remainders that are not 0, in order."""
        return self._remainders

    @property
    def common(self):
        """The greatest common factor of the pair."""
        return self._remainders[-1]

    @property
    def convergents(self):
        """The fractions of the first quotients, of the first two, and so on."""
        # Worked out when they are asked for: they take longer than all the rest.
        return _convergents_of(self._quotients)

    @property
    def coprime_inverse(self):
        """The inverse of a, or None if the pair is not coprime."""
        return inverse_or_none(self._a, self._b)

    @property
    def alternating(self):
        """The alternating sum of the quotients behind the first one."""
        return sum(self._quotients[1::2]) - sum(self._quotients[2::2])

    def shifted(self, times):
        """The ladder of (a + times b, b)."""
        shift = checked_integer(times) * self._b
        return Ladder(Long(self._a + shift), Long(self._b))

    def exchanged(self):
        """The ladder of (b, a)."""
        if self._a < 1:
            raise InvalidOperation("only a first integer of at least 1 can be exchanged")
        return Ladder(Long(self._b), Long(self._a))

    def __getitem__(self, at):
        if not is_short_integer(at) or not 0 <= at < len(self._quotients):
            raise InvalidNumber(at)
        return self._quotients[at]

    def __iter__(self):
        return iter(self._quotients)

    def __len__(self):
        return len(self._quotients)

    def __eq__(self, other):
        return isinstance(other, Ladder) and self._a == other.a and self._b == other.b

    def __str__(self):
        return str(_ladder_text(self._a, self._b, self._quotients))


def common_factor(a, b):
    """The greatest common factor of a pair."""
    first, second = checked_pair(a, b)
    return gcd(first, second)


def inverse_of(a, b):
    """The inverse of a, an integer from 0 to b - 1, for a coprime pair."""
    first, second = checked_pair(a, b)
    inverse = inverse_or_none(first, second)
    if inverse is None:
        raise InvalidOperation("only coprime integers have an inverse")
    return inverse


def are_coprime(a, b):
    """Whether the greatest common factor of a pair is 1."""
    return common_factor(a, b) == 1


def pair_from(quotients):
    """The coprime pair whose ladder has these quotients."""
    if not _are_quotients(quotients):
        raise InvalidOperation("no ladder is read from these quotients")
    return _convergents_of(quotients)[-1]


def inverse_or_none(a, b):
    """The inverse of a, or None if the pair is not coprime, for integers of any length."""
    # The upper digits of both integers are remainders. The lower ones are what a is
    # multiplied by to get them, up to a multiple of b: so one division does for both.
    bits = b.bit_length() + 2
    upper, lower = b << bits, (a % b << bits) + 1
    while lower > b:
        upper = upper % lower
        lower = lower % upper
    # No remainder is left in `lower`, and the greatest common factor in `upper`.
    return (upper - (1 << bits)) % b if lower == b else None


def check_coprime(a, b, c=1):
    """An error if two of the integers have a common factor."""
    if gcd(a, b) != 1 or gcd(b, c) != 1 or gcd(c, a) != 1:
        raise InvalidOperation("only integers of which any two are coprime are taken here")


def _are_quotients(value):
    if not isinstance(value, tuple) or not 1 <= len(value) <= _MAX_QUOTIENTS:
        return False
    if not all([is_short_integer(one) and abs(one) < _TOO_LONG_QUOTIENT for one in value]):
        return False
    # With a last quotient of 1 the algorithm would have stopped one step earlier.
    return all([one >= 1 for one in value[1:]]) and (len(value) == 1 or value[-1] >= 2)


def _euclid_steps(a, b):
    quotient, rest = divmod(a, b)
    quotients = [quotient]
    remainders = [b]
    while rest:
        remainders.append(rest)
        a, b = b, rest
        rest = a - b
        # Many quotients are 1, and a difference takes less time than a division.
        if rest < b:
            quotients.append(1)
        else:
            quotient, rest = divmod(a, b)
            quotients.append(quotient)
    return tuple(quotients), tuple(remainders)


def _convergents_of(quotients):
    convergents = []
    before, last = (0, 1), (1, 0)
    for quotient in quotients:
        before, last = last, (quotient * last[0] + before[0], quotient * last[1] + before[1])
        convergents.append(last)
    return tuple(convergents)


def _ladder_text(a, b, quotients):
    words = " ".join([integer_text(one) for one in quotients])
    return f"{integer_text(a)}/{integer_text(b)}: {words}"
