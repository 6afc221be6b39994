"""Mixing rows, against sending all integers one by one, and shortest vectors."""

import math
import unittest
from fractions import Fraction

from tests.plain import exact, exchanged_shifted_sum, exchanged_sum, plain_tooth
from tests.samples import LONGEST, SIXTY, SIXTY_ONE, Refusals, judged_values, not_integers, random_pairs
from toothchain.base.ratios import Ratio
from toothchain.rows.mixing import MAX_CYCLE, MixingRow, flattest, is_least_vector, least_square, least_vector
from toothchain.sums.shifts import shifted_sum
from toothchain.sums.teeth import tooth, tooth_sum

SMALL = [(a, c, m) for m in range(1, 17) for a in range(m) if math.gcd(a, m) == 1 for c in range(m)]
LARGE = [
    (SIXTY, SIXTY - 3, SIXTY - 1), (5, 3, 2 ** 199), (3 ** 125, 0, 2 ** 199), (3 ** 125, 1, 2 ** 198), (1, 1, SIXTY),
    (LONGEST[0], 7, LONGEST[1]), (LONGEST[0], 0, LONGEST[1]), (-1, 10 ** 58, SIXTY), (10 ** 30 + 7, -(10 ** 59), 3 ** 120),
    *[(a, c, b) for (a, b), (c, _) in zip(random_pairs(23), random_pairs(24)) if math.gcd(a, b) == 1],
]
VECTORS = [(a, m) for m in range(1, 24) for a in range(-3, m + 3)]
LARGE_VECTORS = [
    (0, SIXTY), (1, SIXTY), (SIXTY, SIXTY), (-SIXTY, SIXTY - 1), (3 ** 125, 2 ** 199), (10 ** 30, SIXTY), LONGEST,
    (10 ** 59, 10 ** 59 + 1), (6 ** 70, 6 ** 77), (SIXTY, 1), *random_pairs(31),
]


def sent(a, c, m):
    return [(a * x + c) % m for x in range(m)]


def plain_pair_total(a, c, m):
    half = Fraction(1, 2)
    return sum((Fraction(x, m) - half) * (Fraction(y, m) - half) for x, y in enumerate(sent(a, c, m)))


def plain_correlation(a, c, m):
    pairs = list(enumerate(sent(a, c, m)))
    mean = Fraction(m - 1, 2)
    spread = sum((x - mean) ** 2 for x in range(m))
    return sum((x - mean) * (y - mean) for x, y in pairs) / spread


def plain_cycle(a, c, m, x):
    found = [x]
    while (x := (a * x + c) % m) != found[0]:
        found.append(x)
    return tuple(found)


def plain_least_square(a, m):
    # The pair (m, 0) is one of them, so none of both integers of the least one is longer.
    return min(u * u + v * v for v in range(-m, m + 1) for u in range(-(a * v % m), m + 1, m) if (u, v) != (0, 0))


class RowTests(unittest.TestCase):
    def test_properties(self):
        for a, c, m in [(5, 3, 8), (-3, 10, 7), (8, 8, 7), (-8, -7, 7), (SIXTY, -SIXTY, 10), (0, 5, 1), (SIXTY, SIXTY, 1)]:
            row = MixingRow(a, c, m)
            self.assertEqual((row.multiplier, row.addend, row.modulus), (a % m, c % m, m))
            self.assertEqual({type(one) for one in (row.multiplier, row.addend, row.modulus)}, {int})

    def test_after_and_before(self):
        for a, c, m in SMALL:
            row = MixingRow(a - 2 * m, c + 3 * m, m)
            self.assertEqual([row.after(x) for x in range(m)], sent(a, c, m))
            self.assertEqual([row.before(y) for y in sent(a, c, m)], list(range(m)))
        for a, c, m in LARGE:
            row = MixingRow(a, c, m)
            for x in (0, 1, m // 2, m - 1):
                if x < m:
                    self.assertEqual(row.after(x), (a * x + c) % m)
                    self.assertEqual((row.before(row.after(x)), row.after(row.before(x))), (x, x))

    def test_equality(self):
        self.assertTrue(MixingRow(5, 3, 8) == MixingRow(-3, 11, 8))
        self.assertFalse(MixingRow(5, 3, 8) != MixingRow(13, -5, 8))
        for other in (MixingRow(3, 3, 8), MixingRow(5, 4, 8), MixingRow(5, 3, 16), MixingRow(5, 3, 9)):
            self.assertTrue(MixingRow(5, 3, 8) != other)
            self.assertFalse(MixingRow(5, 3, 8) == other)
        for value in not_integers():
            self.assertFalse(MixingRow(5, 3, 8) == value)
            self.assertTrue(MixingRow(5, 3, 8) != value)
        self.assertTrue(MixingRow(7, 7, 1) == MixingRow(0, 0, 1))

    def test_texts(self):
        self.assertEqual(str(MixingRow(5, 3, 8)), "x -> 5 x + 3 mod 8")
        self.assertEqual(str(MixingRow(-3, 10, 7)), "x -> 4 x + 3 mod 7")
        self.assertEqual(str(MixingRow(9, 9, 1)), "x -> 0 x + 0 mod 1")
        self.assertEqual(str(MixingRow(-1, -1, SIXTY)), f"x -> {SIXTY - 1} x + {SIXTY - 1} mod {SIXTY}")

    def test_no_iteration(self):
        with self.assertRaises(TypeError):
            iter(MixingRow(5, 3, 8))

    def test_rows_never_change(self):
        row = MixingRow(5, 3, 8)
        row.then(row), row.inverse(), row.repeated(9), row.cycle(1), row.pair_total(), row.correlation()
        self.assertEqual((row.multiplier, row.addend, row.modulus, str(row)), (5, 3, 8, "x -> 5 x + 3 mod 8"))


class JoiningTests(unittest.TestCase):
    def test_then(self):
        for m in (1, 2, 5, 8, 9):
            rows = [MixingRow(a, c, m) for a, c, n in SMALL if n == m]
            for one in rows:
                for other in rows:
                    both = one.then(other)
                    self.assertEqual([both.after(x) for x in range(m)], [other.after(one.after(x)) for x in range(m)])
        for a, c, m in LARGE:
            one, other = MixingRow(a, c, m), MixingRow(-a, 5, m)
            for x in (0, m // 3, m - 1):
                self.assertEqual(one.then(other).after(x), other.after(one.after(x)))

    def test_inverse(self):
        for a, c, m in [*SMALL, *LARGE]:
            row = MixingRow(a, c, m)
            self.assertEqual(row.inverse().after(row.after(m // 2)), m // 2)
            for both in (row.then(row.inverse()), row.inverse().then(row)):
                self.assertTrue(both == MixingRow(1, 0, m))

    def test_repeated(self):
        for a, c, m in SMALL:
            row = MixingRow(a, c, m)
            expected = MixingRow(1, 0, m)
            for times in range(8):
                self.assertTrue(row.repeated(times) == expected)
                self.assertTrue(row.repeated(-times) == expected.inverse())
                expected = expected.then(row)
            self.assertTrue(row.repeated(-1) == row.inverse())

    def test_repeated_many_times(self):
        for a, c, m in LARGE:
            row = MixingRow(a, c, m)
            for many in (SIXTY // 2, 10 ** 59 + 3, 2 ** 150):
                half, rest = divmod(many, 2)
                twice = row.repeated(half).then(row.repeated(half))
                self.assertTrue(row.repeated(many) == (twice.then(row) if rest else twice))
                self.assertTrue(row.repeated(many).then(row.repeated(-many)) == MixingRow(1, 0, m))
        # A full row comes back after as many times as its modulus.
        self.assertTrue(MixingRow(5, 3, 2 ** 199).repeated(2 ** 199) == MixingRow(1, 0, 2 ** 199))
        self.assertFalse(MixingRow(5, 3, 2 ** 199).repeated(2 ** 198) == MixingRow(1, 0, 2 ** 199))
        self.assertEqual(MixingRow(1, 1, SIXTY).repeated(-SIXTY + 1).after(0), 1)


class CycleTests(unittest.TestCase, Refusals):
    def test_cycles(self):
        for a, c, m in SMALL:
            row = MixingRow(a, c, m)
            for x in range(m):
                self.assertEqual(row.cycle(x), plain_cycle(a, c, m, x))

    def test_limit(self):
        self.assertEqual(MAX_CYCLE, 2000)
        self.assertEqual(len(MixingRow(21, 3, 2000).cycle(0)), 2000)
        self.assertEqual(MixingRow(1, 0, 2000).cycle(1999), (1999,))
        for m in (2001, SIXTY):
            row = MixingRow(1, 0, m)
            self.assert_too_many(2000, row.cycle, 0)
            # Behind the word "then": a wrong integer comes before the limit.
            for x in (-1, m, "x", None):
                self.assert_no_number(x, row.cycle, x)

    def test_is_full(self):
        for m in range(1, 61):
            for a in range(m):
                for c in (0, 1, 2, 3, 5, 6, m - 1):
                    if math.gcd(a, m) == 1:
                        row = MixingRow(a, c, m)
                        self.assertIs(row.is_full, len(row.cycle(0)) == m, (a, c, m))

    def test_rows_that_just_miss_it(self):
        for a, c, m, expected in [
            (1, 0, 1, True), (SIXTY, SIXTY, 1, True), (1, 1, 2, True), (1, 0, 2, False), (5, 3, 8, True), (5, 2, 8, False),
            (3, 3, 8, False), (3, 1, 2, True), (3, 1, 4, False), (5, 1, 4, True), (7, 1, 12, False), (13, 1, 12, True),
            (31, 7, 900, False), (61, 7, 900, True), (61, 3, 900, False), (7, 5, 18, True), (4, 5, 9, True), (4, 5, 27, True),
            (5, 1, 2 ** 199, True), (5, 2, 2 ** 199, False), (3, 1, 2 ** 199, False), (1, SIXTY - 1, SIXTY, True),
            (1, 3, SIXTY, False), (1 + 6 * 10 ** 58, 7, 6 ** 76, True), (1 + 3 ** 60, 7, 2 * 3 ** 120, False),
            (1 + 2 * 3 ** 60, 7, 2 * 3 ** 120, True), (1 + 2 * 3 ** 60, 7, 4 * 3 ** 120, False),
        ]:
            if math.gcd(a, m) == 1:
                self.assertIs(MixingRow(a, c, m).is_full, expected, (a, c, m))
            else:
                self.assert_not_allowed(MixingRow, a, c, m)


class SpreadTests(unittest.TestCase, Refusals):
    def test_small_rows(self):
        for a, c, m in [*SMALL, (7, 3, 30), (31, 12, 100), (64, 64, 101)]:
            row = MixingRow(a, c, m)
            self.assertIs(type(row.pair_total()), Ratio)
            self.assertEqual(exact(row.pair_total()), plain_pair_total(a, c, m), (a, c, m))
            if m > 1:
                self.assertIs(type(row.correlation()), Ratio)
                self.assertEqual(exact(row.correlation()), plain_correlation(a, c, m), (a, c, m))

    def test_great_rows(self):
        for a, c, m in LARGE:
            row = MixingRow(a, c, m)
            a, c = a % m, c % m
            expected = exchanged_sum(a, m) + Fraction(1, 4)
            if c:
                sent_to_zero = -c * pow(a, -1, m) % m
                teeth = plain_tooth(Fraction(c, m)) + plain_tooth(Fraction(sent_to_zero, m))
                expected = exchanged_shifted_sum(a, m, Fraction(c, m), 0) - teeth / 2
            self.assertEqual(exact(row.pair_total()), expected)
            if m > 1:
                self.assertEqual(exact(row.correlation()), (12 * m * expected - 3) / (m * m - 1))
                self.assertTrue(abs(exact(row.correlation())) <= 1)

    def test_other_modules_agree(self):
        for a, c, m in [*SMALL, *LARGE]:
            row = MixingRow(a, c, m)
            expected = tooth_sum(a, m) + Ratio(1, 4)
            if c % m:
                teeth = tooth(Ratio(c, m)) + tooth(Ratio(row.before(0), m))
                expected = shifted_sum(a, m, Ratio(c, m), 0) - teeth.over(2)
            self.assertEqual(row.pair_total(), expected)

    def test_correlations_of_one_and_its_opposite(self):
        for a, c, m in [one for one in SMALL if one[2] > 1]:
            row = MixingRow(a, c, m)
            self.assertIs(row.correlation() == 1, all(row.after(x) == x for x in range(m)))
            self.assertIs(row.correlation() == -1, all(row.after(x) == m - 1 - x for x in range(m)))
        for m in (2, 3, SIXTY, 10 ** 59):
            self.assertEqual(MixingRow(1, 0, m).correlation(), 1)
            self.assertEqual(MixingRow(-1, -1, m).correlation(), -1)

    def test_modulus_one(self):
        row = MixingRow(3, 4, 1)
        self.assertEqual((row.after(0), row.before(0), row.cycle(0), row.pair_total()), (0, 0, (0,), Ratio(1, 4)))
        self.assert_not_allowed(row.correlation)


class FlattestTests(unittest.TestCase, Refusals):
    def test_small_moduli(self):
        several = 0
        for m in range(2, 27):
            for addend in (0, 1, 2, m - 1, m, -5, m + 3):
                absolute = {a: abs(plain_correlation(a, addend, m)) for a in range(m) if math.gcd(a, m) == 1}
                least = min(absolute.values())
                expected = tuple(a for a in absolute if absolute[a] == least)
                self.assertEqual(flattest(m, addend), expected, (m, addend))
                several += len(expected) > 1
            self.assertEqual(flattest(m), flattest(m, 0))
        self.assertGreater(several, 0)

    def test_limits_and_wrong_integers(self):
        for value in [1, 0, -1, -SIXTY, SIXTY_ONE, *not_integers()]:
            self.assert_no_number(value, flattest, value)
            self.assert_no_number(value, flattest, value, "addend")
        for value in [SIXTY_ONE, *not_integers()]:
            self.assert_no_number(value, flattest, 5, value)
            # Behind the word "then": a wrong addend comes before the limit.
            self.assert_no_number(value, flattest, 301, value)
        for m in (301, SIXTY):
            self.assert_too_many(300, flattest, m)
            self.assert_too_many(300, flattest, m, -SIXTY)
        for m in (299, 300):
            found = flattest(m, SIXTY)
            least = min(abs(exact(MixingRow(a, SIXTY, m).correlation())) for a in range(m) if math.gcd(a, m) == 1)
            self.assertEqual({abs(exact(MixingRow(a, SIXTY, m).correlation())) for a in found}, {least})
            self.assertEqual(list(found), sorted(found))
        self.assertEqual((flattest(2), flattest(modulus=8, addend=0)), ((1,), (5,)))


class VectorTests(unittest.TestCase, Refusals):
    def test_small_moduli(self):
        for a, m in VECTORS:
            least = plain_least_square(a, m)
            self.assertEqual(least_square(a, m), least, (a, m))
            found = least_vector(a, m)
            self.assertEqual((type(found), [type(one) for one in found]), (tuple, [int, int]))
            self.assertEqual((found[0] ** 2 + found[1] ** 2, (found[0] + a * found[1]) % m), (least, 0))

    def test_judging(self):
        for a, m in VECTORS:
            least = plain_least_square(a, m)
            for u in range(-5, 6):
                for v in range(-5, 6):
                    expected = (u + a * v) % m == 0 and u * u + v * v == least
                    self.assertIs(is_least_vector(a, m, (u, v)), expected, (a, m, u, v))
        # Several pairs are the least ones.
        self.assertEqual([is_least_vector(2, 5, one) for one in [(1, 2), (2, -1), (-1, -2), (-2, 1), (2, 1)]],
                         [True, True, True, True, False])
        self.assertEqual([is_least_vector(0, 1, one) for one in [(0, 1), (1, 0), (0, -1), (1, 1), (0, 0)]],
                         [True, True, True, False, False])

    def test_great_moduli(self):
        for a, m in LARGE_VECTORS:
            u, v = least_vector(a, m)
            square = u * u + v * v
            self.assertEqual(((u + a * v) % m, least_square(a, m)), (0, square))
            # The least square of a lattice is at most 2/sqrt(3) times its density.
            self.assertTrue(0 < square and 3 * square * square <= 4 * m * m)
            self.assertIs(is_least_vector(a, m, (u, v)), True)
            self.assertIs(is_least_vector(a, m, (-u, -v)), True)
            for wrong in [(0, 0), (u + m, v), (2 * u, 2 * v), (u, v + 1), (u, v, 0), [u, v], (m, 0)]:
                if wrong != (1, 0):
                    self.assertIs(is_least_vector(a, m, wrong), False)
            self.assertTrue(self.is_reduced(a, m, (u, v)))

    def is_reduced(self, a, m, vector):
        """Whether no pair on the line beside the vector's own one is shorter."""
        u, v = vector
        square = u * u + v * v
        # A second vector with the determinant m beside the first one.
        common, p, q = self.combination(u, v)
        other = (-q * m // common, p * m // common) if common == 1 else None
        if other is None:
            return True
        times = Fraction(other[0] * u + other[1] * v, square)
        return all((other[0] - k * u) ** 2 + (other[1] - k * v) ** 2 >= square
                   for k in range(math.floor(times) - 1, math.floor(times) + 3))

    def combination(self, a, b):
        if b == 0:
            return abs(a), 1 if a >= 0 else -1, 0
        common, p, q = self.combination(b, a % b)
        return common, q, p - a // b * q

    def test_judged_values(self):
        for value in judged_values():
            self.assertIs(is_least_vector(5, 8, value), False)
        for value in [(True, 2), (2, True), (Ratio(2), -2), (2, -2.5), (2, "2"), (None, None), (0, False), (False, True)]:
            self.assertIs(is_least_vector(5, 8, value), False)
            self.assertIs(is_least_vector(0, 1, value), False)
        self.assertIs(is_least_vector(0, 1, (0, True)), False)

    def test_wrong_arguments(self):
        for call in (least_vector, least_square, lambda a, m: is_least_vector(a, m, (1, 1))):
            for value in [SIXTY_ONE, *not_integers()]:
                self.assert_no_number(value, call, value, 5)
                self.assert_no_number(value, call, value, 0)
            for value in [0, -1, -SIXTY, SIXTY_ONE, *not_integers()]:
                self.assert_no_number(value, call, 5, value)
        self.assert_no_number("a", is_least_vector, "a", 0, None)
        self.assert_no_number(0, is_least_vector, 5, 0, None)


class RefusalTests(unittest.TestCase, Refusals):
    def test_wrong_rows(self):
        for value in [SIXTY_ONE, *not_integers()]:
            self.assert_no_number(value, MixingRow, value, "c", 0)
            self.assert_no_number(value, MixingRow, 2, value, 0)
            self.assert_no_number(value, MixingRow, 2, value, 4)
        for value in [0, -1, -SIXTY, SIXTY_ONE, *not_integers()]:
            self.assert_no_number(value, MixingRow, 2, 3, value)
        for a, m in [(2, 4), (0, 2), (0, SIXTY), (6, 9), (-3, SIXTY), (SIXTY, SIXTY)]:
            self.assert_not_allowed(MixingRow, a, 3, m)
        # Behind the word "then": each wrong integer comes before a common factor.
        self.assert_no_number(None, MixingRow, 2, None, 4)
        MixingRow(SIXTY, SIXTY, SIXTY - 1), MixingRow(0, 0, 1)

    def test_wrong_integers_of_methods(self):
        for row in (MixingRow(5, 3, 8), MixingRow(1, 0, 1), MixingRow(5, 3, 10 ** 59 + 3)):
            for call in (row.after, row.before, row.cycle):
                for x in [row.modulus, row.modulus + 1, -1, -SIXTY, SIXTY_ONE, *not_integers()]:
                    self.assert_no_number(x, call, x)
            for times in [SIXTY_ONE, *not_integers()]:
                self.assert_no_number(times, row.repeated, times)

    def test_values_that_are_no_rows(self):
        row = MixingRow(5, 3, 8)
        for value in [0, 1, *not_integers(), MixingRow(5, 3, 16), MixingRow(5, 3, 9), MixingRow(0, 0, 1)]:
            self.assert_not_allowed(row.then, value)


if __name__ == "__main__":
    unittest.main()
