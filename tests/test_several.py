"""Sums for several numbers at once, against plain sums."""

import math
import unittest
from fractions import Fraction

from tests.plain import exact, exchanged_sum, plain_exchange, plain_sum
from tests.samples import LARGE_PAIRS, LONGEST, SIXTY, SIXTY_ONE, Refusals, not_integers, random_pairs
from toothchain.base.ratios import Ratio, total
from toothchain.sums.several import (
    MAX_DIVIDED, divisor_pairs, divisor_sum, divisor_total, divisors_of, row_total, three_terms, three_total,
)
from toothchain.sums.teeth import tooth_sum

LARGE = [*LARGE_PAIRS, LONGEST, *random_pairs(31, many=2)]


def coprime_triples():
    for a in range(1, 12):
        for b in range(1, 12):
            for c in range(1, 12):
                if math.gcd(a, b) == math.gcd(b, c) == math.gcd(c, a) == 1:
                    yield a, b, c
    yield SIXTY, SIXTY - 1, 1
    yield 1, SIXTY, SIXTY - 1
    yield 2 ** 199, 3 ** 125, 5 ** 85
    yield 5 ** 85, 7 ** 70, 2 ** 199
    yield SIXTY, SIXTY - 1, 7 * 10 ** 58 + 3


class ThreeTests(unittest.TestCase, Refusals):
    def test_terms(self):
        for a, b, c in coprime_triples():
            terms = three_terms(a, b, c)
            self.assertEqual((type(terms), [*map(type, terms)]), (tuple, [Ratio] * 3))
            self.assertEqual([exact(one) for one in terms], [
                exchanged_sum(b * pow(c, -1, a), a),
                exchanged_sum(c * pow(a, -1, b), b),
                exchanged_sum(a * pow(b, -1, c), c),
            ])

    def test_total(self):
        for a, b, c in coprime_triples():
            value = three_total(a, b, c)
            self.assertIs(type(value), Ratio)
            self.assertEqual(exact(value), Fraction(-1, 4) + Fraction(a * a + b * b + c * c, 12 * a * b * c))
            self.assertEqual(value, total(three_terms(a, b, c)))

    def test_one_among_three(self):
        for a, b in [(1, 1), (2, 3), (5, 12), (1, 7), (SIXTY, SIXTY - 1)]:
            for numbers in ((a, b, 1), (1, a, b), (b, 1, a)):
                self.assertEqual(exact(three_total(*numbers)), plain_exchange(a, b))
            self.assertEqual(three_terms(a, b, 1)[2], 0)
        self.assertEqual([str(one) for one in three_terms(1, 1, 1)], ["0", "0", "0"])

    def test_for_one_as_the_third_number_this_is_the_exchange(self):
        for a, b in [(2, 3), (5, 12), (12, 5), (1, 7), LONGEST]:
            self.assertEqual(three_terms(a, b, 1), (tooth_sum(b, a), tooth_sum(a, b), 0))
            self.assertEqual(three_total(a, b, 1), tooth_sum(a, b) + tooth_sum(b, a))

    def test_wrong_numbers(self):
        for call in (three_terms, three_total):
            for value in [0, -1, -SIXTY, *not_integers()]:
                self.assert_no_number(value, call, value, 2, 3)
                self.assert_no_number(value, call, 1, value, 3)
                self.assert_no_number(value, call, 1, 2, value)
                self.assert_no_number(value, call, value, 0, "c")
                self.assert_no_number(value, call, 1, value, "c")
                # Behind the word "then": wrong numbers come before common factors.
                self.assert_no_number(value, call, 2, 2, value)
            self.assert_no_number(SIXTY_ONE, call, SIXTY_ONE, 1, 1)
            self.assert_no_number(SIXTY_ONE, call, 1, SIXTY_ONE, 1)
            self.assert_no_number(SIXTY_ONE, call, 1, 1, SIXTY_ONE)

    def test_not_coprime(self):
        for call in (three_terms, three_total):
            for numbers in [(2, 2, 1), (2, 1, 2), (1, 2, 2), (6, 35, 3), (3, SIXTY, 1), (SIXTY, 1, SIXTY)]:
                self.assert_not_allowed(call, *numbers)


class DivisorTests(unittest.TestCase, Refusals):
    def test_divisors(self):
        for number in range(1, 61):
            expected = tuple(d for d in range(1, number + 1) if number % d == 0)
            self.assertEqual((type(divisors_of(number)), divisors_of(number)), (tuple, expected))
            self.assertEqual((type(divisor_sum(number)), divisor_sum(number)), (int, sum(expected)))

    def test_pairs(self):
        for number in range(1, 61):
            for a, b in [(1, 3), (0, 1), (-7, 4), (6, 9), LONGEST, (-SIXTY, SIXTY - 1)]:
                expected = []
                for d in divisors_of(number):
                    for j in range(d):
                        expected.append((number // d * a + j * b, d * b))
                self.assertEqual(divisor_pairs(number, a, b), tuple(expected))
        self.assertEqual({type(one) for one in divisor_pairs(6, 1, 3)}, {tuple})

    def test_total_of_small_sums(self):
        for number in (1, 2, 3, 4, 6, 12):
            for a, b in [(1, 3), (0, 1), (-7, 4), (6, 9), (5, 12), (4, 7)]:
                value = sum((plain_sum(p, q) for p, q in divisor_pairs(number, a, b)), Fraction(0))
                self.assertIs(type(divisor_total(number, a, b)), Ratio)
                self.assertEqual(exact(divisor_total(number, a, b)), value)

    def test_total_of_large_sums(self):
        for number in (1, 2, 7, 12, 59, 60):
            for a, b in LARGE[::3]:
                value = sum((exchanged_sum(p, q) for p, q in divisor_pairs(number, a, b)), Fraction(0))
                self.assertEqual(exact(divisor_total(number, a, b)), value)

    def test_total_by_the_sum_of_divisors(self):
        for number in range(1, 61):
            for a, b in LARGE:
                self.assertEqual(divisor_total(number, a, b), tooth_sum(a, b) * divisor_sum(number))

    def test_divided_numbers(self):
        self.assertEqual(MAX_DIVIDED, 60)
        for call in (divisors_of, divisor_sum, lambda number: divisor_pairs(number, 1, 3),
                     lambda number: divisor_total(number, 1, 3)):
            call(1)
            call(60)
            for number in [0, -1, -60, 61, 120, SIXTY, -SIXTY, *not_integers()]:
                self.assert_no_number(number, call, number)

    def test_number_comes_before_the_pair(self):
        for call in (divisor_pairs, divisor_total):
            for number in (0, 61, "number", True, SIXTY_ONE):
                self.assert_no_number(number, call, number, "a", 0)
            self.assert_pair_is_checked(lambda a, b: call(60, a, b))
            self.assert_no_number(SIXTY_ONE, call, 2, SIXTY_ONE, 1)
            self.assert_no_number(SIXTY_ONE, call, 2, 1, SIXTY_ONE)


class RowTotalTests(unittest.TestCase, Refusals):
    def plain_total(self, sums, shift):
        return sum((one * sums[(a + shift) % len(sums)] for a, one in enumerate(sums)), Fraction(0))

    def test_totals(self):
        for b in [*range(1, 25), 60]:
            sums = [plain_sum(a, b) for a in range(b)]
            for shift in (0, 1, 2, 3, 7, b, b + 1, -1, -4, -b, 5 * b - 2, 100):
                self.assertIs(type(row_total(b, shift)), Ratio)
                self.assertEqual(exact(row_total(b, shift)), self.plain_total(sums, shift))

    def test_shift_is_zero_if_left_out(self):
        for b in (1, 2, 3, 30):
            self.assertEqual(row_total(b), row_total(b, 0))
            self.assertEqual(row_total(b, shift=1), row_total(b, 1))

    def test_statements(self):
        for b in [*range(1, 20), 97, 300]:
            self.assertEqual(total(tuple(tooth_sum(a, b) for a in range(b))), 0)
            for shift in (1, 2, b // 2, b - 1):
                value = row_total(b, shift)
                self.assertEqual((row_total(b, -shift), row_total(b, shift + 5 * b)), (value, value))
                self.assertEqual(row_total(b, shift - SIXTY // b // 2 * b), value)
                self.assertLessEqual(value.compare(row_total(b)), 0)

    def test_limit(self):
        self.assertIs(type(row_total(300, SIXTY)), Ratio)
        for b in (301, 2000, SIXTY):
            self.assert_too_many(300, row_total, b)
            self.assert_too_many(300, row_total, b, -7)

    def test_wrong_arguments(self):
        for value in [0, -1, -SIXTY, *not_integers()]:
            self.assert_no_number(value, row_total, value)
            self.assert_no_number(value, row_total, value, "shift")
        for value in not_integers():
            self.assert_no_number(value, row_total, 5, value)
            # Behind the word "then": a wrong shift comes before the limit.
            self.assert_no_number(value, row_total, 301, value)
        self.assert_no_number(SIXTY_ONE, row_total, SIXTY_ONE)
        self.assert_no_number(SIXTY_ONE, row_total, 5, SIXTY_ONE)


if __name__ == "__main__":
    unittest.main()
