"""Shifted sums of teeth, and the certificates that show what they are."""

from math import gcd, lcm

from toothchain.base.integers import checked_from, checked_pair, is_inner_integer, is_short_integer
from toothchain.base.ratios import Ratio, ratio_of, terms_of
from toothchain.errors import InvalidOperation, InvalidRatio, TooMany
from toothchain.sums.teeth import bend_top, tooth_top

_MAX_PLAIN = 2000
_MAX_ROWS = 2000


def shifted_sum(a, b, x, y):
    """The sum s(a, b; x, y)."""
    p, q, u, v, scale = _scaled(a, b, x, y)
    tops = _tops_of(_states_from(p, q, u, v, scale), scale)
    return ratio_of(tops[0], 12 * q * scale * scale)


def shifted_row(a, b, x, y):
    """The products that this sum adds up."""
    p, q, u, v, scale = _scaled(a, b, x, y)
    if q > _MAX_PLAIN:
        raise TooMany(_MAX_PLAIN)
    bottom = q * scale
    products = []
    for at in range(q):
        top = at * scale + v
        product = tooth_top(p * top + q * u, bottom) * tooth_top(top, bottom)
        products.append(ratio_of(product, 4 * bottom * bottom))
    return tuple(products)


def shifted_exchange(a, b, x, y):
    """What s(a, b; x, y) and s(b, a; y, x) add up to."""
    checked_from(1, a)
    p, q, u, v, scale = _scaled(a, b, x, y)
    if gcd(p, q) != 1:
        raise InvalidOperation("only coprime integers are exchanged")
    return ratio_of(_exchange_top(p, q, u, v, scale), 12 * p * q * scale * scale)


def shifted_certificate(a, b, x, y):
    """A certificate for s(a, b; x, y)."""
    first, second, x_top, y_top, scale = _scaled(a, b, x, y)
    states = _states_from(first, second, x_top, y_top, scale)
    rows = []
    for (p, q, u, v), top in zip(states, _tops_of(states, scale)):
        rows.append((p, q, ratio_of(u, scale), ratio_of(v, scale), ratio_of(top, 12 * q * scale * scale)))
    return tuple(rows)


def is_shifted_certificate(a, b, x, y, value):
    """Whether the value is a certificate for s(a, b; x, y)."""
    first, second = checked_pair(a, b)
    start = (first, second, _short_terms(x), _short_terms(y))
    rows = _rows_in(value)
    if rows is None or rows[0][:4] != start or not _is_end(rows[-1]):
        return False
    for before, after in zip(rows, rows[1:]):
        if not _follows(before, after):
            return False
    return True


def _short_terms(number):
    top, bottom = terms_of(number)
    if not is_short_integer(top) or not is_short_integer(bottom):
        raise InvalidRatio("numerators and denominators have at most sixty digits here")
    return top, bottom


def _scaled(a, b, x, y):
    """The pair, the numerators of x and y over one denominator, and this denominator."""
    p, q = checked_pair(a, b)
    (top, bottom), (other_top, other_bottom) = _short_terms(x), _short_terms(y)
    scale = lcm(bottom, other_bottom)
    return p, q, top * (scale // bottom), other_top * (scale // other_bottom), scale


def _exchange_top(p, q, u, v, scale):
    """What an exchange adds up to for u/scale and v/scale, times 12 p q scale scale."""
    teeth = tooth_top(u, scale) * tooth_top(v, scale)
    whole = scale * scale if u % scale == 0 and v % scale == 0 else 0
    bends = p * p * bend_top(v, scale) + bend_top(p * v + q * u, scale) + q * q * bend_top(u, scale)
    return 3 * p * q * (teeth - whole) + bends


def _states_from(p, q, u, v, scale):
    """What Euclid's steps make of the pair and the two numerators, until q = 1."""
    states = [(p, q, u, v)]
    common = gcd(p, q)
    if common != 1:
        p, q = p // common, q // common
        states.append((p, q, u, v))
    while q != 1:
        if 0 < p < q:
            p, q, u, v = q, p, v, u
        else:
            many, p = divmod(p, q)
            u, v = (u + many * v) % scale, v % scale
        states.append((p, q, u, v))
    return states


def _tops_of(states, scale):
    """12 q scale scale s(p, q; u/scale, v/scale), an integer, for each state."""
    p, _, u, v = states[-1]
    top = 3 * tooth_top(p * v + u, scale) * tooth_top(v, scale)
    tops = [top]
    for at in range(len(states) - 2, -1, -1):
        p, q, u, v = states[at]
        after = states[at + 1]
        if after[:2] == (q, p):
            top = (_exchange_top(p, q, u, v, scale) - q * top) // p
        else:
            # A shift leaves q as it is, and a reduction divides it.
            top = top * (q // after[1])
        tops.append(top)
    return tops[::-1]


def _rows_in(value):
    """The rows of a certificate with the terms of their numbers, or None if there are none."""
    if not isinstance(value, tuple) or not 1 <= len(value) <= _MAX_ROWS:
        return None
    rows = []
    for row in value:
        if not _is_row(row):
            return None
        rows.append((row[0], row[1], _terms_in(row[2]), _terms_in(row[3]), _terms_in(row[4])))
    return rows


def _is_row(value):
    if not isinstance(value, tuple) or len(value) != 5:
        return False
    if not is_inner_integer(value[0]) or not is_inner_integer(value[1]) or value[1] < 1:
        return False
    return all([_is_inner_number(one) for one in value[2:]])


def _is_inner_number(value):
    if isinstance(value, Ratio):
        return is_inner_integer(value.top) and is_inner_integer(value.bottom)
    return is_inner_integer(value)


def _terms_in(number):
    """The terms of a number inside a certificate, which may be longer than a passed integer."""
    return (number.top, number.bottom) if isinstance(number, Ratio) else (number, 1)


def _is_end(row):
    p, q, (top, bottom), (other_top, other_bottom), (value_top, value_bottom) = row
    scale = bottom * other_bottom
    u, v = top * other_bottom, other_top * bottom
    product = tooth_top(p * v + u, scale) * tooth_top(v, scale)
    return q == 1 and product * value_bottom == value_top * 4 * scale * scale


def _follows(before, after):
    """Whether the second row follows from the first one by some rule."""
    if before[4] == after[4] and (_is_shifted(before, after) or _is_the_same(before, after)):
        return True
    return _is_negated(before, after) or _is_exchanged(before, after)


def _is_shifted(before, after):
    p, q, (top, bottom), (other_top, other_bottom), _ = before
    new_p, new_q, (new_top, new_bottom), (last_top, last_bottom), _ = after
    if new_q != q or (p - new_p) % q != 0:
        return False
    # In lowest terms only fractions with one denominator can differ by an integer.
    if last_bottom != other_bottom or (last_top - other_top) % other_bottom != 0:
        return False
    scale = bottom * other_bottom
    wanted = top * other_bottom + (p - new_p) // q * other_top * bottom
    return (new_top * scale - wanted * new_bottom) % (scale * new_bottom) == 0


def _is_the_same(before, after):
    """Whether the rule turn or reduce leads there, if the values are equal."""
    p, q, x, y, _ = before
    new_p, new_q, new_x, new_y, _ = after
    if (new_p, new_q, new_x, new_y) == (p, q, _opposite(x), _opposite(y)):
        return True
    return (new_x, new_y) == (x, y) and q % new_q == 0 and p == q // new_q * new_p


def _is_negated(before, after):
    p, q, x, y, value = before
    return after == (-p, q, _opposite(x), y, _opposite(value))


def _is_exchanged(before, after):
    p, q, x, y, (top, bottom) = before
    new_top, new_bottom = after[4]
    if after[:4] != (q, p, y, x) or gcd(p, q) != 1:
        return False
    scale = lcm(x[1], y[1])
    u, v = x[0] * (scale // x[1]), y[0] * (scale // y[1])
    both = top * new_bottom + new_top * bottom
    return both * 12 * p * q * scale * scale == _exchange_top(p, q, u, v, scale) * bottom * new_bottom


def _opposite(terms):
    return -terms[0], terms[1]
