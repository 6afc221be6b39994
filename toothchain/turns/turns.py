"""Turns: tables of four integers with the determinant 1, and their words."""

from toothchain.base.integers import Long, integer_of, integer_text, is_short_integer
from toothchain.base.ratios import ratio_of
from toothchain.errors import InvalidNumber, InvalidOperation, InvalidTurn, InvalidWord, TooMany
from toothchain.sums.teeth import sum_of

MAX_WORD = 400

_MAX_EXPONENT = 40


class Turn:
    """A table of four integers with the determinant 1; it never changes."""

    def __init__(self, p, q, r, t):
        self._rows = _checked_rows(integer_of(p), integer_of(q), integer_of(r), integer_of(t))

    @property
    def rows(self):
        """The table as a tuple of two pairs."""
        return self._rows

    @property
    def trace(self):
        """The sum of the upper left and the lower right integer."""
        return self._rows[0][0] + self._rows[1][1]

    @property
    def phi(self):
        """The integer that tells by a sum of teeth how far the turn winds."""
        (p, q), (r, t) = self._rows
        if r == 0:
            return q * t
        return (ratio_of(p + t, r) - sum_of(t, abs(r)) * (12 * _sign_of(r))).floor

    @property
    def psi(self):
        """What phi becomes when it is made the same for all turns that go around one."""
        return self.phi - 3 * _sign_of(self._rows[1][0] * self.trace)

    def __mul__(self, other):
        return _turn_of(_product(self._rows, _rows_of(other)))

    def __neg__(self):
        (p, q), (r, t) = self._rows
        return _turn_of(((-p, -q), (-r, -t)))

    def __eq__(self, other):
        return isinstance(other, Turn) and self._rows == other.rows

    def __str__(self):
        return str(_rows_text(self._rows))

    def inverse(self):
        """The turn whose product with this one is ((1, 0), (0, 1))."""
        return _turn_of(_inverse(self._rows))

    def power(self, exponent):
        """The product of as many of this turn, or of its inverse below 0."""
        if not is_short_integer(exponent) or not -_MAX_EXPONENT <= exponent <= _MAX_EXPONENT:
            raise InvalidNumber(exponent)
        factor = _inverse(self._rows) if exponent < 0 else self._rows
        rows = ((1, 0), (0, 1))
        for _ in range(abs(exponent)):
            rows = _product(rows, factor)
        return _turn_of(rows)

    def around(self, other):
        """The product of the other turn, this one and the inverse of the other one."""
        rows = _rows_of(other)
        return _turn_of(_product(_product(rows, self._rows), _inverse(rows)))

    def word(self):
        """The word that stands for the turn."""
        (p, q), (r, t) = self._rows
        if min(p, q, r, t) < 0:
            raise InvalidOperation("a turn with a negative integer has no word")
        return _word_of(p, q, r, t)


def word_turn(word):
    """The turn of a word."""
    if not is_word(word):
        raise InvalidWord("a word has at most 400 letters U and V")
    p, q, r, t = 1, 0, 0, 1
    for letter in word:
        if letter == "U":
            q, t = p + q, r + t
        else:
            p, r = p + q, r + t
    return _turn_of(((p, q), (r, t)))


def is_word(value):
    """Whether the value is a word."""
    if not isinstance(value, str) or len(value) > MAX_WORD:
        return False
    return value.count("U") + value.count("V") == len(value)


def _checked_rows(p, q, r, t):
    if p is None or q is None or r is None or t is None:
        raise InvalidTurn("a turn has four integers of at most sixty digits")
    if p * t - q * r != 1:
        raise InvalidTurn("a turn has the determinant 1")
    return (p, q), (r, t)


def _turn_of(rows):
    """The turn of integers of any length that the package itself computed."""
    (p, q), (r, t) = rows
    return Turn(Long(p), Long(q), Long(r), Long(t))


def _rows_of(value):
    if not isinstance(value, Turn):
        raise InvalidTurn("this is no turn")
    return value.rows


def _product(one, other):
    (p, q), (r, t) = one
    (h, i), (j, k) = other
    return (p * h + q * j, p * i + q * k), (r * h + t * j, r * i + t * k)


def _inverse(rows):
    (p, q), (r, t) = rows
    return (t, -q), (-r, p)


def _rows_text(rows):
    (p, q), (r, t) = rows
    return f"{integer_text(p)} {integer_text(q)}; {integer_text(r)} {integer_text(t)}"


def _sign_of(number):
    if number == 0:
        return 0
    return 1 if number > 0 else -1


def _word_of(p, q, r, t):
    """The word of a table without negative integers, read from its last letters on."""
    pieces = []
    length = 0
    while q > 0 or r > 0:
        # The greater column holds the other one as often as the letter stands there.
        if q >= p and t >= r:
            many = q // p if r == 0 else min(q // p, t // r)
            q, t = q - many * p, t - many * r
            letter = "U"
        else:
            many = r // t if q == 0 else min(p // q, r // t)
            p, r = p - many * q, r - many * t
            letter = "V"
        length = length + many
        if length > MAX_WORD:
            raise TooMany(MAX_WORD)
        pieces.append(letter * many)
    return "".join(pieces[::-1])
