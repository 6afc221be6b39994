"""Higher teeth, which Bernoulli's polynomials make, their sums, and the chains that show what these are."""

from math import gcd

from toothchain.base.integers import checked_from, checked_pair, is_short_integer
from toothchain.base.ladders import check_coprime
from toothchain.base.ratios import ratio_of, terms_of
from toothchain.errors import InvalidNumber
from toothchain.sums.chains import is_chain_form, is_negated, is_shifted_or_reduced
from toothchain.sums.teeth import sum_of

ORDERS = (1, 3, 5, 7, 9)

_MAX_INDEX = 40
_MAX_DEGREE = 10
_MAX_EXPONENT = 9

# B(0), B(2), .. , B(40) as numerators and denominators. Of the others only B(1) is not 0.
_EVEN_NUMBERS = (
    (1, 1), (1, 6), (-1, 30), (1, 42), (-1, 30), (5, 66), (-691, 2730), (7, 6), (-3617, 510), (43867, 798),
    (-174611, 330), (854513, 138), (-236364091, 2730), (8553103, 6), (-23749461029, 870),
    (8615841276005, 14322), (-7709321041217, 510), (2577687858367, 6), (-26315271553053477373, 1919190),
    (2929993913841559, 6), (-261082718496449122051, 13530),
)

# Each row is the polynomial of its index, times the least integer that makes its factors
# integers, which is the first one of them.
_POLYNOMIALS = (
    (1,),
    (2, -1),
    (6, -6, 1),
    (2, -3, 1, 0),
    (30, -60, 30, 0, -1),
    (6, -15, 10, 0, -1, 0),
    (42, -126, 105, 0, -21, 0, 1),
    (6, -21, 21, 0, -7, 0, 1, 0),
    (30, -120, 140, 0, -70, 0, 20, 0, -1),
    (10, -45, 60, 0, -42, 0, 20, 0, -3, 0),
    (66, -330, 495, 0, -462, 0, 330, 0, -99, 0, 5),
)

# For each order an integer, and what [13.4] gives times this integer: what stands alone,
# and the factors of the products of powers of a and b; of squares of both behind order 1,
# because there the other factors are 0.
_EXCHANGES = {
    1: (6, 1, (1, -3, 1)),
    3: (30, -3, (-1, 5, -1)),
    5: (84, 10, (2, -7, -7, 2)),
    7: (90, -21, (-3, 10, 7, 10, -3)),
    9: (132, 90, (10, -33, -22, -22, -33, 10)),
}


def bernoulli(index):
    """The Bernoulli number with this index."""
    at = _checked_up_to(_MAX_INDEX, checked_from(0, index))
    if at == 1:
        return ratio_of(-1, 2)
    top, bottom = (0, 1) if at % 2 else _EVEN_NUMBERS[at // 2]
    return ratio_of(top, bottom)


def bernoulli_value(index, number):
    """The value of the Bernoulli polynomial with this index."""
    at = _checked_up_to(_MAX_DEGREE, checked_from(0, index))
    top, bottom = terms_of(number)
    return _polynomial_value(at, top, bottom)


def higher_tooth(index, number):
    """The value of this polynomial at the number less its floor, 0 for index 1 and an integer."""
    at = _checked_up_to(_MAX_DEGREE, checked_from(1, index))
    top, bottom = terms_of(number)
    rest = top % bottom
    return ratio_of(0, 1) if at == 1 and rest == 0 else _polynomial_value(at, rest, bottom)


def power_total(exponent, count):
    """The sum of the powers of all integers from 0 to count - 1."""
    at = _checked_up_to(_MAX_EXPONENT, checked_from(0, exponent)) + 1
    many = checked_from(0, count)
    # By [13.5] these powers are differences of values of a polynomial.
    factors = _POLYNOMIALS[at]
    value = 0
    for factor in factors[:-1]:
        value = (value + factor) * many
    return value // (factors[0] * at)


def higher_sum(order, a, b):
    """The sum of the integers below b over b times the higher teeth of their multiples by a/b."""
    kind = _checked_order(order)
    first, second = checked_pair(a, b)
    if kind == 1:
        return sum_of(first, second)
    pairs = _pairs_from(first, second)
    return ratio_of(_tops_of(kind, pairs)[0], _bottom_of(kind, second))


def higher_exchange(order, a, b):
    """What both sums of an exchange add up to, a b**p of the one and b a**p of the other, times p + 1."""
    kind, first, second = _checked_order(order), checked_from(1, a), checked_from(1, b)
    check_coprime(first, second)
    return ratio_of(_exchange_top(kind, first, second), _EXCHANGES[kind][0])


def higher_certificate(order, a, b):
    """A higher chain for the pair."""
    kind = _checked_order(order)
    first, second = checked_pair(a, b)
    pairs = _pairs_from(first, second)
    rows = []
    for (p, q), top in zip(pairs, _tops_of(kind, pairs)):
        bottom = _bottom_of(kind, q)
        common = gcd(top, bottom)
        rows.append((p, q, top // common, bottom // common))
    return tuple(rows)


def is_higher_certificate(order, a, b, value):
    """Whether the value is a higher chain for the pair."""
    kind = _checked_order(order)
    pair = checked_pair(a, b)
    if not is_chain_form(value, pair):
        return False
    for before, after in zip(value, value[1:]):
        if not _follows(kind, before, after):
            return False
    return True


def _checked_order(order):
    if not is_short_integer(order) or order not in ORDERS:
        raise InvalidNumber(order)
    return order


def _checked_up_to(most, number):
    if number > most:
        raise InvalidNumber(number)
    return number


def _polynomial_value(index, top, bottom):
    """The value of the polynomial at top/bottom."""
    factors = _POLYNOMIALS[index]
    value, scale = 0, 1
    for factor in factors:
        value = value * top + factor * scale
        scale = scale * bottom
    return ratio_of(value * bottom, factors[0] * scale)


def _pairs_from(a, b):
    """The pair, in lowest terms if it is not, and what shifts and exchanges make of it until 0 comes first."""
    pairs = [(a, b)]
    p, q = a, b
    common = gcd(p, q)
    if common != 1:
        p, q = p // common, q // common
        pairs.append((p, q))
    while p != 0:
        p, q = (q, p) if 0 < p < q else (p % q, q)
        pairs.append((p, q))
    return pairs


def _tops_of(order, pairs):
    """The higher sum of each pair (p, q), times what `_bottom_of` gives for q, an integer."""
    top = 0
    tops = [top]
    for at in range(len(pairs) - 2, -1, -1):
        (p, q), after = pairs[at], pairs[at + 1]
        if after == (q, p):
            top = (_exchange_top(order, p, q) - q * top) // p
        else:
            # A shift leaves q as it is, and a reduction divides it.
            top = top * _power(order, q // after[1])
        tops.append(top)
    return tops[::-1]


def _bottom_of(order, q):
    return _EXCHANGES[order][0] * (order + 1) * _power(order, q)


def _power(order, number):
    square = number * number
    result = number
    for _ in range(order // 2):
        result = result * square
    return result


def _exchange_top(order, a, b):
    """What [13.4] gives, times the first integer of the order in the table above."""
    _, alone, factors = _EXCHANGES[order]
    one, other = (a, b) if order == 1 else (a * a, b * b)
    value, scale = 0, 1
    for factor in factors:
        value = value * one + factor * scale
        scale = scale * other
    return value + alone


def _follows(order, before, after):
    """Whether the second row follows from the first one by some rule."""
    if is_shifted_or_reduced(before, after) or is_negated(before, after):
        return True
    return _is_exchanged(order, before, after)


def _is_exchanged(order, before, after):
    p, q, top, bottom = before
    u, v, new_top, new_bottom = after
    if u != q or v != p or gcd(p, q) != 1:
        return False
    one = p * _power(order, q) * top * new_bottom
    other = q * _power(order, p) * new_top * bottom
    scale = _EXCHANGES[order][0] * (order + 1)
    return scale * (one + other) == _exchange_top(order, p, q) * bottom * new_bottom
