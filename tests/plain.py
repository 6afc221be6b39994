"""What the document says, computed in the plainest way, with the fractions of Python's library."""

import math
from fractions import Fraction

from toothchain.base.ratios import Ratio


def exact(number):
    """The fraction that is equal to a number of the package, whose ratios show their lowest terms."""
    if isinstance(number, Ratio):
        fraction = Fraction(number.top, number.bottom)
        assert (fraction.numerator, fraction.denominator) == (number.top, number.bottom), str(number)
        return fraction
    return Fraction(number)


def ratio(fraction):
    """The ratio that is equal to a fraction of integers of any length."""
    fraction = Fraction(fraction)
    return whole_ratio(fraction.numerator).over(whole_ratio(fraction.denominator))


def whole_ratio(integer):
    if abs(integer) < 10 ** 60:
        return Ratio(integer)
    high, low = divmod(integer, 10 ** 50)
    return whole_ratio(high) * 10 ** 50 + low


def plain_tooth(x):
    x = Fraction(x)
    return Fraction(0) if x.denominator == 1 else x - math.floor(x) - Fraction(1, 2)


def plain_bend(x):
    part = Fraction(x) - math.floor(x)
    return part * part - part + Fraction(1, 6)


def plain_row(a, b):
    return [plain_tooth(Fraction(k, b)) * plain_tooth(Fraction(a * k, b)) for k in range(b)]


def plain_sum(a, b):
    return sum(plain_row(a, b), Fraction(0))


def plain_exchange(a, b):
    return Fraction(-1, 4) + Fraction(a * a + b * b + 1, 12 * a * b)


def exchanged_sum(a, b):
    """The sum by the rules of [0.9] alone, for integers of every length."""
    common = math.gcd(a, b)
    a, b = a // common, b // common
    value, sign = Fraction(0), 1
    while a := a % b:
        value += sign * plain_exchange(a, b)
        a, b, sign = b, a, -sign
    return value


def chain_up_to(quotients):
    """Rows from (0, 1) on up to a pair whose fraction has these quotients behind a 0."""
    p, q, value = 0, 1, Fraction(0)
    rows = [(p, q, 0, 1)]
    for quotient in quotients[::-1]:
        p += quotient * q
        rows.append((p, q, value.numerator, value.denominator))
        value = plain_exchange(p, q) - value
        p, q = q, p
        rows.append((p, q, value.numerator, value.denominator))
    return rows


def plain_shifted_row(a, b, x, y):
    return [plain_tooth(Fraction(a) * (k + y) / b + x) * plain_tooth(Fraction(k + y) / b) for k in range(b)]


def plain_shifted_sum(a, b, x, y):
    return sum(plain_shifted_row(a, b, Fraction(x), Fraction(y)), Fraction(0))


def plain_shifted_exchange(a, b, x, y):
    x, y = Fraction(x), Fraction(y)
    corner = Fraction(1, 4) if x.denominator == y.denominator == 1 else 0
    bends = Fraction(a, b) * plain_bend(y) + plain_bend(a * y + b * x) / (a * b) + Fraction(b, a) * plain_bend(x)
    return plain_tooth(x) * plain_tooth(y) - corner + bends / 2


def exchanged_shifted_sum(a, b, x, y):
    """The shifted sum by the rules of [8.2] alone, for integers of every length."""
    common = math.gcd(a, b)
    a, b, x, y = a // common, b // common, Fraction(x), Fraction(y)
    value, sign = Fraction(0), 1
    while b > 1:
        a, x = a % b, (x + a // b * y) % 1
        value += sign * plain_shifted_exchange(a, b, x, y)
        a, b, x, y, sign = b, a, y, x, -sign
    return value + sign * plain_tooth(a * y + x) * plain_tooth(y)


def shifted_rows_up_to(quotients, u, v):
    """Rows from the pair (0, 1) with shifts on, by shifts with these multiples and exchanges in turn."""
    p, q, value = 0, 1, plain_tooth(u) * plain_tooth(v)
    rows = [(p, q, u, v, value)]
    for quotient in quotients:
        p, u = p + quotient * q, (u - quotient * v) % 1
        rows.append((p, q, u, v, value))
        value = plain_shifted_exchange(p, q, u, v) - value
        p, q, u, v = q, p, v, u
        rows.append((p, q, u, v, value))
    return rows


NUMBERS = [Fraction(1)]


def plain_bernoulli(n):
    while len(NUMBERS) <= n:
        m = len(NUMBERS)
        NUMBERS.append(-sum(math.comb(m + 1, k) * NUMBERS[k] for k in range(m)) / (m + 1))
    return NUMBERS[n]


def plain_polynomial(n, x):
    return sum(math.comb(n, k) * plain_bernoulli(k) * Fraction(x) ** (n - k) for k in range(n + 1))


def higher_exchange_value(p, a, b):
    """What [13.4] says, word for word."""
    return p * plain_bernoulli(p + 1) + sum(
        math.comb(p + 1, k) * (-1) ** k * plain_bernoulli(k) * a ** k * plain_bernoulli(p + 1 - k) * b ** (p + 1 - k)
        for k in range(p + 2)
    )


def higher_value(p, a, b):
    """The higher sum by the rules of [13.3] and [13.4] alone, for integers of every length."""
    common = math.gcd(a, b)
    a, b = a // common, b // common
    pairs = []
    while a := a % b:
        pairs.append((a, b))
        a, b = b, a
    value = Fraction(0)
    for one, other in reversed(pairs):
        value = (higher_exchange_value(p, one, other) / (p + 1) - other * one ** p * value) / (one * other ** p)
    return value
