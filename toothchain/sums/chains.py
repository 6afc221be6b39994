"""Chains of exchanges: rows that show one by one what the sum of a pair is."""

from math import gcd

from toothchain.base.integers import checked_pair, integer_text, is_inner_integer, is_short_integer
from toothchain.base.ladders import inverse_or_none
from toothchain.errors import InvalidNumber, InvalidOperation, NothingToUndo, TooMany
from toothchain.sums.teeth import sum_of

MAX_ROWS = 2000
MAX_DIGITS = 800

_MAX_STEPS = 200
_MAX_TIMES = 9

# The rules after which the sum counts with the opposite sign.
_OPPOSITES = ("negate", "exchange")


class Walk:
    """A pair that the rules of chains change step by step, and all the pairs that it was."""

    def __init__(self, a, b):
        self._pairs = [checked_pair(a, b)]
        self._steps = []

    @property
    def pair(self):
        """The pair at this time."""
        return self._pairs[-1]

    @property
    def sign(self):
        """The sign with which the sum of the pair counts at this time."""
        opposites = [word for word in self._steps if word in _OPPOSITES]
        return -1 if len(opposites) % 2 else 1

    @property
    def offset(self):
        """What the sum of the start has beyond the signed sum of the pair."""
        (a, b), (p, q) = self._pairs[0], self._pairs[-1]
        return sum_of(a, b) - sum_of(p, q) * self.sign

    @property
    def start(self):
        """The pair at which the walk started."""
        return self._pairs[0]

    @property
    def steps(self):
        """The words of the rules that were applied."""
        return tuple(self._steps)

    @property
    def result(self):
        """The sum of the start if the walk has arrived at 0, else None."""
        if self._pairs[-1][0] != 0:
            return None
        a, b = self._pairs[0]
        return sum_of(a, b)

    def shift(self, times=None):
        """Add the second integer so many times to the first, or leave its remainder."""
        if times is not None and not (is_short_integer(times) and -_MAX_TIMES <= times <= _MAX_TIMES):
            raise InvalidNumber(times)
        p, q = self._pairs[-1]
        return self._checked_step("shift", (p % q if times is None else p + times * q, q))

    def negate(self):
        """Replace the first integer by its opposite."""
        p, q = self._pairs[-1]
        return self._checked_step("negate", (-p, q))

    def invert(self):
        """Replace the first integer by its inverse."""
        p, q = self._pairs[-1]
        inverse = inverse_or_none(p, q)
        if inverse is None:
            raise InvalidOperation("only coprime integers have an inverse")
        return self._checked_step("invert", (inverse, q))

    def reduce(self):
        """Divide both integers by their greatest common factor."""
        return self._checked_step("reduce", lowest_pair(self._pairs[-1]))

    def exchange(self):
        """Exchange both integers."""
        p, q = self._pairs[-1]
        if p < 1 or gcd(p, q) != 1:
            raise InvalidOperation("only coprime integers of at least 1 can be exchanged")
        return self._checked_step("exchange", (q, p))

    def finish(self):
        """Go on by remainders until the first integer is 0, and tell how many steps this took."""
        before = len(self._steps)
        p, q = self._pairs[-1]
        if p != 0 and gcd(p, q) != 1:
            p, q = self._step("reduce", lowest_pair((p, q)))
        # Shifts and exchanges leave a coprime pair coprime.
        while p != 0:
            if 0 < p < q:
                p, q = self._step("exchange", (q, p))
            else:
                p, q = self._step("shift", (p % q, q))
        return len(self._steps) - before

    def certificate(self):
        """The chain with one row for each pair of a walk that has arrived at 0."""
        if self._pairs[-1][0] != 0:
            raise InvalidOperation("the walk has not arrived at 0")
        return _rows_of(self._pairs, self._steps)

    def undo(self, *, many=1):
        """Take the last steps back."""
        if not is_short_integer(many) or many < 0:
            raise InvalidNumber(many)
        kept = len(self._steps) - many
        if kept < 0:
            raise NothingToUndo(many)
        self._steps = self._steps[:kept]
        self._pairs = self._pairs[:kept + 1]
        return self._pairs[-1]

    def twin(self):
        """An equal walk that goes on by itself."""
        a, b = self._pairs[0]
        other = Walk(a, b)
        other._pairs = list(self._pairs)
        other._steps = list(self._steps)
        return other

    def __bool__(self):
        return bool(self._pairs[-1][0])

    def __len__(self):
        return len(self._steps)

    def __eq__(self, other):
        return isinstance(other, Walk) and self._pairs == other._pairs

    def __str__(self):
        return str(_walk_text(self._pairs[0], len(self._steps), self._pairs[-1]))

    def _checked_step(self, word, pair):
        if len(self._steps) >= _MAX_STEPS:
            raise TooMany(_MAX_STEPS)
        return self._step(word, pair)

    def _step(self, word, pair):
        self._steps.append(word)
        self._pairs.append(pair)
        return pair


def chain_certificate(a, b):
    """A chain for the pair."""
    walk = Walk(a, b)
    walk.finish()
    return walk.certificate()


def is_chain_certificate(a, b, value):
    """Whether the value is a chain for the pair."""
    pair = checked_pair(a, b)
    if not is_chain_form(value, pair):
        return False
    for before, after in zip(value, value[1:]):
        if not _follows(before, after):
            return False
    return True


def are_rows(value):
    """Whether the value is a tuple of as many rows of four integers as a chain may have."""
    if not isinstance(value, tuple) or not 1 <= len(value) <= MAX_ROWS:
        return False
    return all([_is_row(row) for row in value])


def is_chain_form(value, pair):
    """Whether the value has rows as a chain, the first one and the last one of which are right."""
    if not are_rows(value) or not all([row[1] >= 1 and row[3] >= 1 for row in value]):
        return False
    return value[0][:2] == pair and value[-1][0] == 0 and value[-1][2] == 0


def is_shifted_or_reduced(before, after):
    """Whether shift or reduce leads from the first row to the second one."""
    p, q, top, bottom = before
    u, v, new_top, new_bottom = after
    if top * new_bottom != new_top * bottom:
        return False
    return (u - p) % q == 0 if v == q else q % v == 0 and p == q // v * u


def is_negated(before, after):
    """Whether negate leads from the first row to the second one."""
    p, q, top, bottom = before
    u, v, new_top, new_bottom = after
    return u == -p and v == q and top * new_bottom == -new_top * bottom


def lowest_pair(pair):
    p, q = pair
    common = gcd(p, q)
    return p // common, q // common


def _pair_text(pair):
    return f"{integer_text(pair[0])}/{integer_text(pair[1])}"


def _walk_text(start, many, pair):
    return f"walk from {_pair_text(start)}: {many} steps, at {_pair_text(pair)}"


def _rows_of(pairs, steps):
    """The rows of all these pairs, the last of which has the first integer 0."""
    top = 0
    rows = [_row_of(pairs[-1], top)]
    for at in range(len(steps) - 1, -1, -1):
        top = _top_before(steps[at], pairs[at], pairs[at + 1], top)
        rows.append(_row_of(pairs[at], top))
    return tuple(rows[::-1])


def _row_of(pair, top):
    """The row whose value is top/(12 q), in lowest terms."""
    p, q = pair
    common = gcd(top, 12 * q)
    return p, q, top // common, 12 * q // common


def _top_before(word, before, after, top):
    """12 q s(p, q), an integer, for the pair before a step; `top` is this after the step."""
    p, q = before
    if word == "negate":
        return -top
    if word == "reduce":
        return top * (q // after[1])
    if word == "exchange":
        return (_exchange_top(p, q) - q * top) // p
    return top


def _exchange_top(p, q):
    """What the sums of an exchange add up to, times 12 p q."""
    return p * p + q * q + 1 - 3 * p * q


def _is_row(value):
    if not isinstance(value, tuple) or len(value) != 4:
        return False
    return all([is_inner_integer(one) for one in value])


def _follows(before, after):
    """Whether the second row follows from the first one by some rule."""
    if is_shifted_or_reduced(before, after) or is_negated(before, after):
        return True
    return _is_inverted(before, after) or _is_exchanged(before, after)


def _is_inverted(before, after):
    p, q, top, bottom = before
    u, v, new_top, new_bottom = after
    return v == q and (u * p - 1) % q == 0 and top * new_bottom == new_top * bottom


def _is_exchanged(before, after):
    p, q, top, bottom = before
    u, v, new_top, new_bottom = after
    if u != q or v != p or gcd(p, q) != 1:
        return False
    both = top * new_bottom + new_top * bottom
    return both * 12 * p * q == _exchange_top(p, q) * bottom * new_bottom
