"""Shifted sums, their rows and exchanges, against plain sums and against the rules of [8.2] and [8.4]."""

import math
import random
import unittest
from fractions import Fraction

from tests.plain import (
    exact, exchanged_shifted_sum, plain_shifted_exchange, plain_shifted_row, plain_shifted_sum, plain_sum, plain_tooth,
    ratio,
)
from tests.samples import LARGE_PAIRS, LONGEST, SIXTY, SIXTY_ONE, Refusals, not_integers, not_numbers, random_pairs
from toothchain.base.ratios import Ratio, total
from toothchain.errors import InvalidRatio
from toothchain.sums.shifts import shifted_exchange, shifted_row, shifted_sum
from toothchain.sums.teeth import tooth_row, tooth_sum

PAIRS = [(a, b) for b in range(1, 9) for a in range(-5, 14)]
SHIFTS = [Fraction(top, bottom) for bottom in (1, 2, 3, 5, 12) for top in (-13, -2, -1, 0, 1, 4, 29)]
LARGE_SHIFTS = [
    Fraction(SIXTY, SIXTY - 1), Fraction(-SIXTY, 2), Fraction(1, SIXTY), Fraction(7 ** 70, 2 ** 199), Fraction(SIXTY),
    Fraction(-5, 3 ** 125),
]


def shifted_arguments():
    """Pairs with shifts of all kinds: integers, below 0, beyond b."""
    source = random.Random(88)
    for a, b in PAIRS:
        for _ in range(4):
            yield a, b, source.choice(SHIFTS), source.choice(SHIFTS)
        yield a, b, Fraction(0), Fraction(0)
        yield a, b, Fraction(-b), Fraction(2 * b + 1)
        yield a, b, Fraction(1, 2), Fraction(1, 2)


def large_arguments():
    source = random.Random(89)
    for a, b in [*LARGE_PAIRS, LONGEST, LONGEST[::-1], *random_pairs(88, many=2)]:
        yield a, b, Fraction(0), Fraction(1, 2)
        yield a, b, source.choice(LARGE_SHIFTS), source.choice(LARGE_SHIFTS)


SMALL = list(shifted_arguments())
LARGE = list(large_arguments())


def call(function, a, b, x, y):
    return function(a, b, ratio(x), ratio(y))


class SumTests(unittest.TestCase):
    def test_small_sums(self):
        for arguments in SMALL:
            value = call(shifted_sum, *arguments)
            self.assertIs(type(value), Ratio)
            self.assertEqual(exact(value), plain_shifted_sum(*arguments))

    def test_large_sums(self):
        for arguments in LARGE:
            self.assertEqual(exact(call(shifted_sum, *arguments)), exchanged_shifted_sum(*arguments))

    def test_without_shifts(self):
        for a, b in [*PAIRS, *LARGE_PAIRS, LONGEST]:
            for zero in (0, Ratio(0), 7, Ratio(-3), SIXTY):
                self.assertEqual(shifted_sum(a, b, zero, 0), tooth_sum(a, b))
                self.assertEqual(shifted_sum(a, b, 0, zero), tooth_sum(a, b))

    def test_integers_and_whole_ratios(self):
        for a, b in PAIRS:
            for x in (-5, 0, 2, 40):
                for y in (Ratio(1, 3), Ratio(x), x):
                    value = shifted_sum(a, b, x, y)
                    self.assertEqual(shifted_sum(a, b, Ratio(x), y), value)
                    self.assertEqual(shifted_sum(a, b, Ratio(2 * x, 2), y), value)
                    self.assertEqual(exact(value), plain_shifted_sum(a, b, x, exact(y)))

    def test_second_integer_one(self):
        for a in (-4, 0, 1, 9, SIXTY, -SIXTY):
            for x in SHIFTS[::3]:
                for y in SHIFTS[::4]:
                    self.assertEqual(exact(call(shifted_sum, a, 1, x, y)), plain_tooth(a * y + x) * plain_tooth(y))

    def test_common_factor(self):
        for a, b, x, y in SMALL + LARGE[::3]:
            for d in (2, 3, 10):
                if max(abs(a), b) * d <= SIXTY:
                    self.assertEqual(call(shifted_sum, d * a, d * b, x, y), call(shifted_sum, a, b, x, y))


class LawTests(unittest.TestCase):
    """The statements of [8.2] and [8.4]."""

    def test_shifts_by_one(self):
        for a, b, x, y in SMALL:
            value = call(shifted_sum, a, b, x, y)
            self.assertEqual(call(shifted_sum, a, b, x + 1, y), value)
            self.assertEqual(call(shifted_sum, a, b, x, y + 1), value)
            self.assertEqual(call(shifted_sum, a, b, x - 40, y + 17), value)

    def test_multiples_of_the_second_integer(self):
        large = [(a, b, Fraction(1, 3), Fraction(-2, 7)) for a, b in random_pairs(90, many=2)]
        for a, b, x, y in SMALL + large:
            for m in (-3, -1, 1, 2):
                if abs(a + m * b) <= SIXTY:
                    self.assertEqual(call(shifted_sum, a + m * b, b, x, y), call(shifted_sum, a, b, x + m * y, y))

    def test_opposites(self):
        for a, b, x, y in SMALL + LARGE:
            value = call(shifted_sum, a, b, x, y)
            self.assertEqual(call(shifted_sum, -a, b, -x, y), -value)
            self.assertEqual(call(shifted_sum, a, b, -x, -y), value)

    def test_exchange(self):
        for a, b, x, y in SMALL + LARGE:
            if a >= 1 and math.gcd(a, b) == 1:
                both = call(shifted_sum, a, b, x, y) + call(shifted_sum, b, a, y, x)
                self.assertEqual(call(shifted_exchange, a, b, x, y), both)

    def test_divided_shifts(self):
        for a, b, x, y in SMALL[::3]:
            for d in (1, 2, 3, 6):
                parts = tuple(call(shifted_sum, a, b, x + Fraction(j, d), y) for j in range(d))
                self.assertEqual(total(parts), call(shifted_sum, d * a, b, d * x, y))


class RowTests(unittest.TestCase, Refusals):
    def test_rows(self):
        for arguments in [*SMALL, (7, 100, Fraction(1, 3), Fraction(-9, 2)), (SIXTY, 61, *LARGE_SHIFTS[:2])]:
            row = call(shifted_row, *arguments)
            self.assertIs(type(row), tuple)
            self.assertEqual({type(one) for one in row}, {Ratio})
            self.assertEqual([exact(one) for one in row], plain_shifted_row(*arguments))

    def test_rows_add_up(self):
        for arguments in [*SMALL, (-SIXTY, 700, *LARGE_SHIFTS[:2])]:
            self.assertEqual(total(call(shifted_row, *arguments)), call(shifted_sum, *arguments))
        for a, b in PAIRS:
            self.assertEqual(shifted_row(a, b, 0, 0), tooth_row(a, b))

    def test_limit(self):
        self.assertEqual(len(shifted_row(7, 2000, Ratio(1, 2), Ratio(1, 3))), 2000)
        for b in (2001, SIXTY):
            self.assert_too_many(2000, shifted_row, 7, b, 0, Ratio(1, 3))

    def test_wrong_arguments_come_before_the_limit(self):
        self.assert_refused(InvalidRatio, shifted_row, 7, 2001, "x", 0)
        self.assert_refused(InvalidRatio, shifted_row, 7, 2001, 0, "y")
        self.assert_no_number("a", shifted_row, "a", 2001, 0, 0)


class ExchangeTests(unittest.TestCase, Refusals):
    def test_exchanges(self):
        for a, b, x, y in SMALL + LARGE:
            if a >= 1 and math.gcd(a, b) == 1:
                value = call(shifted_exchange, a, b, x, y)
                self.assertIs(type(value), Ratio)
                self.assertEqual(exact(value), plain_shifted_exchange(a, b, x, y))

    def test_integers_and_whole_ratios(self):
        for x in (0, 1, -7, SIXTY):
            for one in (x, Ratio(x), Ratio(2 * (x // 4), 2)):
                for other in (0, Ratio(0), -3, Ratio(12, 4)):
                    value = plain_sum(5, 12) + plain_sum(12, 5)
                    self.assertEqual(exact(shifted_exchange(5, 12, one, other)), value)
                self.assertEqual(exact(shifted_exchange(5, 12, one, Ratio(1, 2))),
                                 plain_shifted_exchange(5, 12, 0, Fraction(1, 2)))

    def test_first_integers_below_one(self):
        for a in [0, -1, -5, -SIXTY, *not_integers()]:
            self.assert_no_number(a, shifted_exchange, a, 5, 0, 0)
            self.assert_no_number(a, shifted_exchange, a, 0, "x", "y")

    def test_not_coprime(self):
        for a, b in [(2, 4), (6, 3), (SIXTY, SIXTY), (3, SIXTY)]:
            self.assert_not_allowed(shifted_exchange, a, b, 0, Ratio(1, 2))
            # Behind the word "then": wrong numbers come before common factors.
            self.assert_refused(InvalidRatio, shifted_exchange, a, b, "x", 0)
            self.assert_refused(InvalidRatio, shifted_exchange, a, b, 0, None)


class WrongArgumentTests(unittest.TestCase, Refusals):
    CALLS = (shifted_sum, shifted_row, shifted_exchange)

    def test_pairs(self):
        for function in self.CALLS:
            for x, y in ((0, 0), ("x", "y"), (Ratio(1, 2), 3)):
                self.assert_pair_is_checked(lambda a, b: function(a, b, x, y))
            self.assert_no_number(SIXTY_ONE, function, SIXTY_ONE, 1, 0, 0)
            self.assert_no_number(SIXTY_ONE, function, 1, SIXTY_ONE, 0, 0)

    def test_numbers(self):
        for function in self.CALLS:
            for value in not_numbers():
                self.assert_refused(InvalidRatio, function, 5, 12, value, 0)
                self.assert_refused(InvalidRatio, function, 5, 12, 0, value)
                self.assert_refused(InvalidRatio, function, 5, 12, value, value)

    def test_sixty_digits(self):
        for function in self.CALLS:
            for number in (SIXTY, -SIXTY, Ratio(SIXTY, SIXTY - 1), Ratio(1, SIXTY)):
                function(5, 12, number, 0)
                function(5, 12, 0, number)
            for number in (SIXTY_ONE, Ratio(SIXTY) + 1, Ratio(1, SIXTY).power(2), Ratio(-SIXTY) - 1,
                           Ratio(SIXTY, SIXTY - 1) * SIXTY):
                self.assert_refused(InvalidRatio, function, 5, 12, number, 0)
                self.assert_refused(InvalidRatio, function, 5, 12, 0, number)


if __name__ == "__main__":
    unittest.main()
