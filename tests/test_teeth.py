"""Teeth, bends and their sums, against the plainest computation and against the rules of sums."""

import math
import unittest
from fractions import Fraction

from tests.plain import exact, exchanged_sum, plain_bend, plain_exchange, plain_row, plain_sum, plain_tooth, ratio
from tests.samples import (
    LARGE_PAIRS, LONGEST, SIXTY, SIXTY_ONE, SMALL_PAIRS, Refusals, coprime, not_integers, not_numbers, random_pairs,
)
from toothchain.base.ratios import Ratio, total
from toothchain.errors import InvalidRatio
from toothchain.sums.alike import twelfths
from toothchain.sums.shifts import is_shifted_certificate, shifted_certificate, shifted_sum
from toothchain.sums.teeth import MAX_PLAIN, bend, greatest_sum, ladder_sum, tooth, tooth_row, tooth_sum

FRACTIONS = [Fraction(top, bottom) for top in range(-25, 26) for bottom in range(1, 9)]
INTEGERS = [0, 1, -1, 7, -12, SIXTY, -SIXTY]
LARGE = [*LARGE_PAIRS, LONGEST, LONGEST[::-1], *random_pairs(3)]


def large_ratios():
    yield Ratio(SIXTY, SIXTY - 1)
    yield Ratio(-SIXTY, 7)
    yield Ratio(1 - SIXTY, SIXTY)
    yield Ratio(SIXTY, 2).power(9)
    yield -Ratio(SIXTY, SIXTY - 4).power(3)
    yield Ratio(SIXTY) * SIXTY


class ToothTests(unittest.TestCase, Refusals):
    def test_tooth(self):
        for x in FRACTIONS:
            self.assertEqual(exact(tooth(ratio(x))), plain_tooth(x))
        for x in large_ratios():
            self.assertEqual(exact(tooth(x)), plain_tooth(exact(x)))

    def test_bend(self):
        for x in FRACTIONS:
            self.assertEqual(exact(bend(ratio(x))), plain_bend(x))
        for x in large_ratios():
            self.assertEqual(exact(bend(x)), plain_bend(exact(x)))

    def test_integers(self):
        for number in INTEGERS:
            for one in (number, Ratio(number), Ratio(2 * (number // 10), 2)):
                self.assertEqual((str(tooth(one)), str(bend(one))), ("0", "1/6"))

    def test_results_are_ratios(self):
        for one in (0, 3, Ratio(5), Ratio(1, 2), Ratio(-7, 4)):
            self.assertIs(type(tooth(one)), Ratio)
            self.assertIs(type(bend(one)), Ratio)

    def test_what_is_no_number(self):
        for value in not_numbers():
            self.assert_refused(InvalidRatio, tooth, value)
            self.assert_refused(InvalidRatio, bend, value)

    def test_sixty_digits(self):
        for call in (tooth, bend):
            call(SIXTY)
            self.assert_refused(InvalidRatio, call, SIXTY_ONE)
            self.assert_refused(InvalidRatio, call, -SIXTY_ONE)


class ToothLawTests(unittest.TestCase):
    """The statements of [3.1]."""

    def test_row_adds_up_to_the_sum(self):
        for a, b in [*SMALL_PAIRS, (1, MAX_PLAIN), (777, 1999), (-SIXTY, 210)]:
            self.assertEqual(total(tooth_row(a, b)), tooth_sum(a, b))

    def test_tooth_is_opposite_at_the_opposite(self):
        for x in FRACTIONS:
            self.assertEqual(tooth(ratio(-x)), -tooth(ratio(x)))

    def test_teeth_of_a_divided_number(self):
        for x in FRACTIONS[::3]:
            for d in range(1, 8):
                teeth = tuple(tooth(ratio((x + j) / d)) for j in range(d))
                self.assertEqual(total(teeth), tooth(ratio(x)))

    def test_bend_is_the_same_at_the_opposite_and_at_most_a_sixth(self):
        for x in FRACTIONS:
            self.assertEqual(bend(ratio(-x)), bend(ratio(x)))
            self.assertLessEqual(bend(ratio(x)).compare(Ratio(1, 6)), 0)


class SumTests(unittest.TestCase, Refusals):
    def test_small_pairs(self):
        for a, b in SMALL_PAIRS:
            self.assertIs(type(tooth_sum(a, b)), Ratio)
            self.assertEqual(exact(tooth_sum(a, b)), plain_sum(a, b))

    def test_large_pairs(self):
        for a, b in LARGE:
            self.assertEqual(exact(tooth_sum(a, b)), exchanged_sum(a, b))

    def test_edges(self):
        for b in (1, 2, 3, 10, 12, SIXTY):
            greatest = Fraction((b - 1) * (b - 2), 12 * b)
            for a, value in [(0, 0), (b, 0), (1, greatest), (b - 1, -greatest), (-1, -greatest)]:
                if a <= SIXTY:
                    self.assertEqual(exact(tooth_sum(a, b)), value)
        self.assertEqual(tooth_sum(SIXTY, 1), 0)

    def test_wrong_pairs(self):
        self.assert_pair_is_checked(tooth_sum)
        self.assert_no_number(SIXTY_ONE, tooth_sum, SIXTY_ONE, 1)
        self.assert_no_number(SIXTY_ONE, tooth_sum, 1, SIXTY_ONE)


class SumsAsRatiosTests(unittest.TestCase):
    """The lowest terms of sums are worked out when they are asked for; in all else sums are ratios as others."""

    PAIRS = [(1, 3), (5, 12), (2, 5), (10, 24), (0, 7), (-7, 30), (13, 14), (1, 300), (-1, 60), *LARGE]

    def sums(self):
        for a, b in self.PAIRS:
            value = exchanged_sum(a, b)
            yield tooth_sum(a, b), value, ratio(value)
            yield twelfths(a, b), 12 * value, ratio(12 * value)

    def test_properties(self):
        for one, value, plain in self.sums():
            self.assertEqual((one.top, one.bottom, str(one)), (value.numerator, value.denominator, str(value)))
            self.assertEqual((one.floor, one.is_whole, bool(one)), (math.floor(value), value.denominator == 1, value != 0))
            self.assertEqual((exact(one.part), type(one.part)), (value - math.floor(value), Ratio))
            self.assertEqual((one.part.is_whole, str(one.part)), (value.denominator == 1, str(value % 1)))

    def test_calculations(self):
        for one, value, plain in self.sums():
            self.assertEqual((exact(-one), exact(abs(one))), (-value, abs(value)))
            for exponent in (0, 1, 2, 5):
                self.assertEqual(exact(one.power(exponent)), value ** exponent)
            for other in (Ratio(1, 3), 2, tooth_sum(1, 5), plain, one):
                term = exact(other)
                self.assertEqual([exact(one + other), exact(one - other), exact(one * other)], [value + term, value - term, value * term])
                self.assertEqual([exact(other + one), exact(other - one), exact(other * one)], [value + term, term - value, value * term])
                self.assertEqual(one.compare(other), (value > term) - (value < term))
                if term:
                    self.assertEqual(exact(one.over(other)), value / term)

    def test_equality(self):
        for one, value, plain in self.sums():
            self.assertTrue(one == plain and plain == one and one == one + 0)
            self.assertFalse(one != plain or plain != one)
            for other in (plain + 1, -plain + 1, plain * 2 + 1, plain + Ratio(1, SIXTY)):
                self.assertEqual((one == other, other == one), (value == exact(other),) * 2)
            for other in (0, 1, -1, 2, 10 ** 100):
                self.assertEqual((one == other, other == one), (value == other,) * 2)
            for other in (True, False, None, str(one), (one,)):
                self.assertFalse(one == other)

    def test_as_arguments(self):
        for one, value, plain in self.sums():
            self.assertEqual(str(tooth(one)), str(tooth(plain)))
            self.assertEqual(str(bend(one)), str(bend(plain)))
            self.assertEqual(total((one, plain, 1)), plain * 2 + 1)
            if max(abs(value.numerator), value.denominator) <= SIXTY:
                # Only lowest terms of at most sixty digits may be passed there.
                self.assertEqual(shifted_sum(3, 7, one, one), shifted_sum(3, 7, plain, plain))
                rows = shifted_certificate(3, 7, one, 0)
                self.assertIs(is_shifted_certificate(3, 7, plain, 0, rows), True)
                self.assertIs(is_shifted_certificate(3, 7, one, 0, ((3, 7, one, 0, rows[0][4]), *rows[1:])), True)
        # Before it is divided by 12 the denominator of this sum has sixty-one digits.
        one = tooth_sum(10 ** 29, 10 ** 58 + 1) + 0
        self.assertEqual((shifted_sum(3, 7, tooth_sum(10 ** 29 * 10, 10 ** 59 + 10), 0), one), (shifted_sum(3, 7, 0, 0), 0))


class SumLawTests(unittest.TestCase):
    """The rules of [0.9], [0.11] and [0.12]."""

    def test_shifts_and_opposites(self):
        for a, b in [*SMALL_PAIRS, *random_pairs(5, many=4)]:
            value = tooth_sum(a, b)
            self.assertEqual(tooth_sum(-a, b), -value)
            for times in (1, -1, 7):
                if abs(a + times * b) <= SIXTY:
                    self.assertEqual(tooth_sum(a + times * b, b), value)

    def test_common_factors(self):
        for a, b in SMALL_PAIRS + [(3, 10 ** 20), (10 ** 30 + 1, 10 ** 31)]:
            for d in (2, 3, 10, 12345):
                self.assertEqual(tooth_sum(d * a, d * b), tooth_sum(a, b))

    def test_inverses(self):
        for a, b in coprime([*SMALL_PAIRS, *LARGE]):
            self.assertEqual(tooth_sum(pow(a, -1, b), b), tooth_sum(a, b))

    def test_exchange(self):
        for a, b in coprime([*SMALL_PAIRS, *LARGE]):
            if a >= 1:
                self.assertEqual(exact(tooth_sum(a, b) + tooth_sum(b, a)), plain_exchange(a, b))

    def test_twelvefold_remainders(self):
        for a, b in coprime([*SMALL_PAIRS, *LARGE]):
            twelvefold = exact(tooth_sum(a, b)) * 12
            top = twelvefold * b
            self.assertEqual((top.denominator, (top.numerator - a - pow(a, -1, b)) % b), (1, 0))
            self.assertEqual(twelvefold.denominator == 1, twelvefold == 0)
            self.assertEqual(twelvefold == 0, (a * a + 1) % b == 0)

    def test_bounds(self):
        for a, b in [*SMALL_PAIRS, *LARGE]:
            self.assertLessEqual(abs(tooth_sum(a, b)).compare(greatest_sum(b)), 0)
        for b in range(3, 30):
            reached = [a for a in range(b) if math.gcd(a, b) == 1 and abs(tooth_sum(a, b)) == greatest_sum(b)]
            self.assertEqual(reached, [1, b - 1])


class RowTests(unittest.TestCase, Refusals):
    def test_rows(self):
        for a, b in [*SMALL_PAIRS, (5, 100), (SIXTY, 61), (-SIXTY, 64)]:
            row = tooth_row(a, b)
            self.assertIs(type(row), tuple)
            self.assertEqual({type(one) for one in row}, {Ratio})
            self.assertEqual([exact(one) for one in row], plain_row(a, b))

    def test_limit(self):
        self.assertEqual(MAX_PLAIN, 2000)
        self.assertEqual(len(tooth_row(7, 2000)), 2000)
        for b in (2001, SIXTY):
            self.assert_too_many(2000, tooth_row, 7, b)

    def test_wrong_pairs_come_before_the_limit(self):
        self.assert_pair_is_checked(tooth_row)
        self.assert_no_number("a", tooth_row, "a", 2001)
        self.assert_no_number(SIXTY_ONE, tooth_row, SIXTY_ONE, 2001)
        self.assert_no_number(SIXTY_ONE, tooth_row, 1, SIXTY_ONE)


class GreatestTests(unittest.TestCase, Refusals):
    def test_greatest(self):
        for b in [*range(1, 50), SIXTY - 1, SIXTY]:
            self.assertIs(type(greatest_sum(b)), Ratio)
            self.assertEqual(greatest_sum(b), tooth_sum(1, b))
            self.assertEqual(exact(greatest_sum(b)), Fraction((b - 1) * (b - 2), 12 * b))

    def test_wrong_integers(self):
        for value in [0, -1, -SIXTY, *not_integers()]:
            self.assert_no_number(value, greatest_sum, value)


class LadderSumTests(unittest.TestCase, Refusals):
    def parts_of(self, a, b):
        """The parts by the words of [0.10], with quotients from the steps of a fraction."""
        quotients, fraction = [], Fraction(a % b, b)
        while fraction:
            fraction = 1 / fraction
            quotients.append(math.floor(fraction))
            fraction -= quotients[-1]
        rest = Fraction(0)
        for quotient in quotients[-2::-1]:
            rest = 1 / (quotient + rest)
        r, sign = rest.denominator, 1 if len(quotients) % 2 else -1
        alternating = sum(-quotient * (-1) ** at for at, quotient in enumerate(quotients, start=1))
        return alternating, Fraction(a % b + sign * r, b), -3 if sign == 1 else 0

    def test_parts(self):
        for a, b in coprime([*SMALL_PAIRS, *LARGE]):
            alternating, fraction, turn = ladder_sum(a, b)
            self.assertEqual((type(alternating), type(fraction), type(turn)), (int, Ratio, int))
            if a % b:
                self.assertEqual((alternating, exact(fraction), turn), self.parts_of(a, b))

    def test_total(self):
        for a, b in coprime([*SMALL_PAIRS, *LARGE]):
            self.assertEqual(total(ladder_sum(a, b)), tooth_sum(a, b) * 12)

    def test_remainder_zero(self):
        for a in INTEGERS:
            parts = ladder_sum(a, 1)
            self.assertIs(type(parts), tuple)
            self.assertEqual(parts, (0, Ratio(0), 0))
            self.assertEqual([type(one) for one in parts], [int, Ratio, int])

    def test_not_coprime(self):
        for a, b in [(0, 2), (2, 4), (-6, 9), (SIXTY, SIXTY), (3, SIXTY), (0, SIXTY)]:
            self.assert_not_allowed(ladder_sum, a, b)

    def test_wrong_pairs(self):
        self.assert_pair_is_checked(ladder_sum)
        self.assert_no_number(SIXTY_ONE, ladder_sum, SIXTY_ONE, 2)
        self.assert_no_number(0, ladder_sum, 0, 0)


if __name__ == "__main__":
    unittest.main()
