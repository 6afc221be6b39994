"""Bernoulli numbers and polynomials, higher teeth and their sums, against their definitions."""

import math
import unittest
from fractions import Fraction

from tests.plain import exact, higher_exchange_value, higher_value, plain_bernoulli, plain_polynomial, plain_sum, ratio
from tests.samples import (
    LARGE_PAIRS, LONGEST, SIXTY, SIXTY_ONE, Refusals, coprime, not_integers, not_numbers, random_pairs,
)
from toothchain.base.ratios import Ratio
from toothchain.errors import InvalidRatio
from toothchain.sums.higher import (
    ORDERS, bernoulli, bernoulli_value, higher_certificate, higher_exchange, higher_sum, higher_tooth,
    is_higher_certificate, power_total,
)
from toothchain.sums.teeth import tooth, tooth_sum

NUMBERS = [0, 1, -1, 7, -30, Fraction(1, 2), Fraction(-1, 3), Fraction(22, 7), Fraction(-100, 9), Fraction(10 ** 30 + 1, 7),
           SIXTY, Fraction(SIXTY, SIXTY - 1), Fraction(-1, SIXTY)]
SMALL = [(a, b) for b in range(1, 11) for a in range(-b - 2, 2 * b + 2)]
LARGE = [*LARGE_PAIRS, LONGEST, LONGEST[::-1], *random_pairs(61, 4)]
WRONG_ORDERS = [0, 2, 4, 6, 8, 10, 11, -1, -3, 30, SIXTY, SIXTY_ONE, *not_integers()]


def plain_tooth_of(p, x):
    part = Fraction(x) - math.floor(x)
    return Fraction(0) if p == 1 and part == 0 else plain_polynomial(p, part)


def plain_higher_sum(p, a, b):
    return sum((Fraction(k, b) * plain_tooth_of(p, Fraction(a * k, b)) for k in range(b)), Fraction(0))


class BernoulliTests(unittest.TestCase, Refusals):
    def test_numbers(self):
        for index in range(41):
            self.assertIs(type(bernoulli(index)), Ratio)
            self.assertEqual(exact(bernoulli(index)), plain_bernoulli(index), index)
        # The definition itself, not only the recursion of the tests.
        for n in range(1, 41):
            self.assertEqual(sum(math.comb(n + 1, k) * exact(bernoulli(k)) for k in range(n + 1)), 0)
        self.assertEqual([str(bernoulli(index)) for index in (0, 1, 2, 3, 10, 11, 39, 40)],
                         ["1", "-1/2", "1/6", "0", "5/66", "0", "0", "-261082718496449122051/13530"])

    def test_wrong_indices(self):
        for index in [-1, 41, 42, -SIXTY, SIXTY, SIXTY_ONE, *not_integers()]:
            self.assert_no_number(index, bernoulli, index)

    def test_polynomials(self):
        for index in range(11):
            for number in NUMBERS:
                value = bernoulli_value(index, ratio(number))
                self.assertIs(type(value), Ratio)
                self.assertEqual(exact(value), plain_polynomial(index, Fraction(number)), (index, number))
            for number in (0, 1, -5, SIXTY):
                self.assertEqual(exact(bernoulli_value(index, number)), plain_polynomial(index, Fraction(number)))
            self.assertEqual(bernoulli_value(index, 0), bernoulli(index))
        self.assertEqual(exact(bernoulli_value(10, Ratio(SIXTY).power(20))), plain_polynomial(10, Fraction(SIXTY ** 20)))

    def test_rules_of_polynomials(self):
        for n in range(11):
            for number in NUMBERS:
                x = ratio(number)
                # As [13.5] says.
                step = bernoulli_value(n, x + 1) - bernoulli_value(n, x)
                self.assertEqual(step, x.power(n - 1) * n if n else 0)
                for d in (1, 2, 3, 7):
                    values = [exact(bernoulli_value(n, (x + j).over(d))) for j in range(d)]
                    self.assertEqual(sum(values), exact(bernoulli_value(n, x)) / Fraction(d) ** (n - 1))

    def test_wrong_polynomials(self):
        for index in [-1, 11, 12, 40, -SIXTY, SIXTY_ONE, *not_integers()]:
            self.assert_no_number(index, bernoulli_value, index, Ratio(1, 2))
            self.assert_no_number(index, bernoulli_value, index, "number")
        for number in not_numbers():
            self.assert_refused(InvalidRatio, bernoulli_value, 10, number)


class ToothTests(unittest.TestCase, Refusals):
    def test_teeth(self):
        for index in range(1, 11):
            for number in NUMBERS:
                value = higher_tooth(index, ratio(number))
                self.assertIs(type(value), Ratio)
                self.assertEqual(exact(value), plain_tooth_of(index, number), (index, number))
                # Teeth come again behind each integer.
                self.assertEqual(higher_tooth(index, ratio(number) + 12), value)

    def test_integers(self):
        for number in (0, 5, -7, SIXTY, Ratio(4, 2), Ratio(SIXTY).power(3)):
            self.assertEqual((higher_tooth(1, number), type(higher_tooth(1, number))), (0, Ratio))
            for index in range(2, 11):
                self.assertEqual(higher_tooth(index, number), bernoulli(index))
        for number in NUMBERS:
            self.assertEqual(higher_tooth(1, ratio(number)), tooth(ratio(number)))

    def test_wrong_arguments(self):
        for index in [0, -1, 11, 12, -SIXTY, SIXTY_ONE, *not_integers()]:
            self.assert_no_number(index, higher_tooth, index, Ratio(1, 2))
            self.assert_no_number(index, higher_tooth, index, "number")
        for number in not_numbers():
            for index in (1, 2, 10):
                self.assert_refused(InvalidRatio, higher_tooth, index, number)


class PowerTests(unittest.TestCase, Refusals):
    def test_small_counts(self):
        for exponent in range(10):
            for count in range(30):
                found = power_total(exponent, count)
                self.assertEqual((found, type(found)), (sum(j ** exponent for j in range(count)), int))
        self.assertEqual([power_total(0, count) for count in (0, 1, 2)], [0, 1, 2])
        self.assertEqual([power_total(9, count) for count in (0, 1, 2, 3)], [0, 0, 1, 513])

    def test_great_counts(self):
        for exponent in range(10):
            for count in (SIXTY, SIXTY - 1, 10 ** 59, 2 ** 199, 12345678901234567890):
                step = power_total(exponent, count) - power_total(exponent, count - 1)
                self.assertEqual(step, (count - 1) ** exponent)
                value = plain_polynomial(exponent + 1, Fraction(count)) - plain_bernoulli(exponent + 1)
                self.assertEqual(power_total(exponent, count), value / (exponent + 1))

    def test_wrong_arguments(self):
        for exponent in [-1, 10, 11, SIXTY, SIXTY_ONE, *not_integers()]:
            self.assert_no_number(exponent, power_total, exponent, 5)
            self.assert_no_number(exponent, power_total, exponent, -1)
        for count in [-1, -SIXTY, SIXTY_ONE, *not_integers()]:
            self.assert_no_number(count, power_total, 3, count)


class SumTests(unittest.TestCase):
    def test_orders(self):
        self.assertEqual((ORDERS, type(ORDERS)), ((1, 3, 5, 7, 9), tuple))

    def test_small_pairs(self):
        for p in ORDERS:
            for a, b in SMALL:
                self.assertIs(type(higher_sum(p, a, b)), Ratio)
                self.assertEqual(exact(higher_sum(p, a, b)), plain_higher_sum(p, a, b), (p, a, b))
                self.assertEqual(higher_value(p, a, b), plain_higher_sum(p, a, b))

    def test_great_pairs(self):
        for a, b in LARGE:
            for p in ORDERS:
                self.assertEqual(exact(higher_sum(p, a, b)), higher_value(p, a, b), (p, a, b))
            self.assertEqual(higher_sum(1, a, b), tooth_sum(a, b))

    def test_order_one_is_the_sum(self):
        for a, b in SMALL:
            self.assertEqual(exact(higher_sum(1, a, b)), plain_sum(a, b))

    def test_rules(self):
        for p in ORDERS:
            for a, b in [*SMALL, (10 ** 29 + 7, 10 ** 28 - 3), (3 ** 50, 2 ** 80), (6 ** 20, 15 ** 10)]:
                value = higher_sum(p, a, b)
                for m in (1, -1, 5, -10 ** 20):
                    self.assertEqual(higher_sum(p, a + m * b, b), value)
                for d in (1, 2, 6, 10 ** 20):
                    self.assertEqual(higher_sum(p, d * a, d * b), value)
                self.assertEqual(higher_sum(p, -a, b), -value)

    def test_inverses_can_differ(self):
        for p in ORDERS[1:]:
            differing = [b for b in range(1, 9) for a in range(b)
                         if math.gcd(a, b) == 1 and higher_sum(p, a, b) != higher_sum(p, pow(a, -1, b), b)]
            self.assertEqual(differing[0], 5)

    def test_edges(self):
        for p in ORDERS:
            for a, b in [(0, 1), (7, 1), (-SIXTY, 1), (0, 12), (SIXTY, SIXTY), (1, 2), (6, 12)]:
                self.assertEqual(higher_sum(p, a, b), 0)
        self.assertEqual([str(higher_sum(p, 1, 5)) for p in (1, 3)], ["1/5", str(ratio(plain_higher_sum(3, 1, 5)))])


class ExchangeTests(unittest.TestCase):
    def test_both_sums(self):
        pairs = [(a, b) for a, b in SMALL if a >= 1] + [(abs(a) + 1, b) for a, b in LARGE if abs(a) < SIXTY]
        for a, b in coprime(pairs):
            for p in ORDERS:
                found = higher_exchange(p, a, b)
                self.assertIs(type(found), Ratio)
                self.assertEqual(exact(found), higher_exchange_value(p, a, b), (p, a, b))
                sums = a * b ** p * exact(higher_sum(p, a, b)) + b * a ** p * exact(higher_sum(p, b, a))
                self.assertEqual(exact(found), (p + 1) * sums)

    def test_it_is_the_same_from_both_sides(self):
        for p in ORDERS:
            for a, b in [(2, 5), (1, 1), (SIXTY, SIXTY - 1), (1, SIXTY), LONGEST]:
                self.assertEqual(higher_exchange(p, a, b), higher_exchange(p, b, a))


class RefusalTests(unittest.TestCase, Refusals):
    CALLS = (higher_sum, higher_exchange, higher_certificate)

    def test_orders_that_are_none(self):
        for order in WRONG_ORDERS:
            for call in self.CALLS:
                self.assert_no_number(order, call, order, 2, 5)
                self.assert_no_number(order, call, order, "a", 0)
            self.assert_no_number(order, is_higher_certificate, order, "a", 0, None)
            self.assert_no_number(order, is_higher_certificate, order, 1, 3, ((1, 3, -1, 81), (3, 1, 0, 1), (0, 1, 0, 1)))

    def test_wrong_pairs(self):
        for p in (1, 9):
            self.assert_pair_is_checked(lambda a, b: higher_sum(p, a, b))
            self.assert_pair_is_checked(lambda a, b: higher_certificate(p, a, b))
            self.assert_pair_is_checked(lambda a, b: higher_exchange(p, a, b))
            self.assert_pair_is_checked(lambda a, b: is_higher_certificate(p, a, b, ((0, 1, 0, 1),)))
            for call in self.CALLS:
                self.assert_no_number(SIXTY_ONE, call, p, SIXTY_ONE, 1)
                self.assert_no_number(SIXTY_ONE, call, p, 1, SIXTY_ONE)

    def test_exchanges_that_are_none(self):
        for a in (0, -1, -SIXTY):
            self.assert_no_number(a, higher_exchange, 3, a, 5)
            self.assert_no_number(a, higher_exchange, 3, a, 0)
        for a, b in [(2, 4), (3, 3), (SIXTY, 3), (10 ** 59, 10 ** 30)]:
            for p in ORDERS:
                self.assert_not_allowed(higher_exchange, p, a, b)
        # Behind the word "then": a wrong second integer comes before a common factor.
        self.assert_no_number(0, higher_exchange, 3, 4, 0)


if __name__ == "__main__":
    unittest.main()
