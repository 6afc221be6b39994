"""Sums asked by the thousands, and what is asked of all sums for one b, against sums of these tests' own."""

import math
import unittest
from fractions import Fraction

from tests.plain import exact, ratio
from tests.samples import LARGE_PAIRS, LONGEST, SIXTY, random_pairs
from toothchain.base.ladders import Ladder, inverse_of
from toothchain.sums.alike import (
    has_whole_twelfths, have_equal_sums, have_like_rests, is_zero_sum, nearest, rest_classes, sum_classes, twelfths,
    who_has,
)
from toothchain.sums.teeth import ladder_sum, tooth_sum

LIMIT = 300


def own_top(a, b):
    """12 b s(a, b) for coprime integers: the exchanges down to 0, and their sums on the way back."""
    pairs = []
    a %= b
    while a:
        pairs.append((a, b))
        a, b = b % a, a
    top = 0
    for p, q in reversed(pairs):
        top = (p * p + q * q + 1 - 3 * p * q - q * top) // p
    return top


def own_twelfths(a, b):
    common = math.gcd(a, b)
    return Fraction(own_top(a // common, b // common), b // common)


def small_pairs():
    for b in range(1, 61):
        for a in range(-2 * b, 3 * b):
            yield a, b


def great_pairs():
    """Pairs of up to sixty digits: coprime ones and others, with first integers below 0 and beyond b."""
    for a, b in [*LARGE_PAIRS, LONGEST, LONGEST[::-1], *random_pairs(41, 60)]:
        yield a, b
        yield -a, b
        yield a % b, b
        for factor in (2, 30, 10 ** 9 + 7, 10 ** 25):
            first, second = a // 10 ** 26 * factor, (b // 10 ** 26 + 1) * factor
            yield first, second
            # The last remainders are long ones, and zeros behind them come from the factor.
            yield factor, factor * (b // 10 ** 26 + 1)
    for bits in range(25, 70):
        for a in (2 ** bits - 1, 2 ** bits, 2 ** bits + 1):
            yield a, 2 ** (bits + 7) + 1
            yield a, 3 * a + 1
            yield a, 10 ** 35 * a
            yield a * 10 ** 20, 10 ** 20 * (5 * a + 3)
            yield 2 ** 100 + a, a


class PairTests(unittest.TestCase):
    def assert_sums(self, a, b):
        expected = own_twelfths(a, b)
        self.assertEqual(exact(twelfths(a, b)), expected, (a, b))
        self.assertEqual(exact(tooth_sum(a, b)) * 12, expected, (a, b))

    def test_small_pairs(self):
        for a, b in small_pairs():
            self.assert_sums(a, b)

    def test_great_pairs(self):
        for a, b in great_pairs():
            self.assert_sums(a, b)

    def test_twenty_thousand_sums(self):
        for k in range(20000):
            a, b = 10 ** 53 + k * 10 ** 40 + 77 * k, 10 ** 54 + 7 * k + 1
            value = tooth_sum(a, b)
            common = math.gcd(a, b)
            top, bottom = own_top(a // common, b // common), 12 * (b // common)
            # The ratio is the fraction in lowest terms.
            self.assertEqual(value.top * bottom, top * value.bottom)
            self.assertEqual(math.gcd(value.top, value.bottom), 1)
            self.assertGreater(value.bottom, 0)

    def test_parts_of_sums(self):
        for a, b in [*small_pairs(), *great_pairs()]:
            if math.gcd(a, b) == 1:
                alternating, fraction, turn = ladder_sum(a, b)
                ladder = Ladder(a % b, b)
                inverse = pow(a, -1, b) if b > 1 else 0
                self.assertEqual(alternating, ladder.alternating)
                self.assertEqual(turn, -3 if len(ladder) % 2 == 0 else 0)
                middle = a % b + inverse - (0 if turn else b) if a % b else 0
                self.assertEqual(exact(fraction), Fraction(middle, b), (a, b))
                self.assertEqual(alternating + exact(fraction) + turn, own_twelfths(a, b))

    def test_inverses(self):
        for a, b in [*small_pairs(), *great_pairs()]:
            expected = pow(a, -1, b) if math.gcd(a, b) == 1 else None
            self.assertEqual(Ladder(a, b).coprime_inverse, expected, (a, b))
            if expected is not None:
                self.assertEqual(inverse_of(a, b), expected)


class ComparingTests(unittest.TestCase):
    def assert_compared(self, a, c, b):
        difference = own_twelfths(a, b) - own_twelfths(c, b)
        self.assertIs(have_equal_sums(a, c, b), difference == 0, (a, c, b))
        self.assertIs(have_like_rests(a, c, b), difference.denominator == 1, (a, c, b))

    def test_small_pairs(self):
        self.assertIs(have_equal_sums(7, 4, 9), True)
        for b in (1, 2, 4, 8, 9, 16, 24, 25, 48, 60):
            units = [a for a in range(-b, 2 * b) if math.gcd(a, b) == 1]
            for a in units:
                for c in units:
                    self.assert_compared(a, c, b)

    def test_great_pairs(self):
        for a, b in great_pairs():
            if math.gcd(a, b) == 1:
                inverse = pow(a, -1, b) if b > 1 else 0
                for c in (a % b, inverse, -inverse, 1):
                    self.assert_compared(a, c, b)
                value = own_twelfths(a, b)
                self.assertIs(is_zero_sum(a, b), value == 0)
                self.assertIs(has_whole_twelfths(a, b), value.denominator == 1)

    def test_like_rests_with_different_great_sums(self):
        # Modulo each of two factors c is either a or its inverse.
        p, q = 10 ** 29 + 319, 10 ** 28 + 331
        self.assertEqual(math.gcd(p, q), 1)
        b = p * q
        for a in (3, 7, 10 ** 20 + 39, 10 ** 57 + 9):
            if math.gcd(a, b) == 1:
                inverse = pow(a, -1, b)
                c = (a * q * pow(q, -1, p) + inverse * p * pow(p, -1, q)) % b
                self.assertIs(have_like_rests(a, c, b), True)
                self.assert_compared(a, c, b)
                self.assertIs(have_equal_sums(a, c, b), False)


class WishTests(unittest.TestCase):
    @classmethod
    def setUpClass(cls):
        """12 b times the sums of all integers below b that are coprime to it, for each b."""
        cls.tops = {
            b: {a: own_top(a, b) for a in range(b) if math.gcd(a, b) == 1} for b in range(1, LIMIT + 1)
        }

    def assert_wish(self, b, wish):
        tops, wanted = self.tops[b], 12 * b * wish
        least = min(abs(one - wanted) for one in tops.values())
        given = wish if isinstance(wish, int) else ratio(wish)
        self.assertEqual(who_has(b, given), tuple(a for a in tops if tops[a] == wanted), (b, wish))
        self.assertEqual(nearest(b, given), tuple(a for a in tops if abs(tops[a] - wanted) == least), (b, wish))

    def test_the_same_wish_for_all(self):
        for b in range(1, LIMIT + 1):
            for wish in (0, 1, -1, 2, 24, 25, -30, SIXTY, -SIXTY, Fraction(1, 18), Fraction(-1, 18), Fraction(0),
                         Fraction(7, 5), Fraction(1, 12 * b), Fraction(1, SIXTY), Fraction(SIXTY, SIXTY - 1)):
                self.assert_wish(b, wish)

    def test_sums_that_are_had_and_ratios_between(self):
        for b in range(1, LIMIT + 1):
            values = sorted(set(self.tops[b].values()))
            for at in {0, len(values) // 5, len(values) // 2, len(values) - 2, len(values) - 1}:
                if 0 <= at < len(values):
                    self.assert_wish(b, Fraction(values[at], 12 * b))
                if 0 <= at < len(values) - 1:
                    middle = Fraction(values[at] + values[at + 1], 24 * b)
                    for wish in (middle, middle + Fraction(1, 10 ** 9), middle - Fraction(1, 10 ** 9)):
                        self.assert_wish(b, wish)

    def test_out_of_reach(self):
        for b in range(1, LIMIT + 1):
            greatest = Fraction((b - 1) * (b - 2), 12 * b)
            for wish in (greatest, greatest + Fraction(1, SIXTY), greatest + 1):
                self.assert_wish(b, wish)
                self.assert_wish(b, -wish)

    def test_classes(self):
        for b in range(1, LIMIT + 1):
            for call, key in ((sum_classes, lambda top, b: top), (rest_classes, lambda top, b: top % b)):
                groups = {}
                for a, top in self.tops[b].items():
                    groups.setdefault(key(top, b), []).append(a)
                self.assertEqual(call(b), tuple(sorted(map(tuple, groups.values()))), b)


if __name__ == "__main__":
    unittest.main()
