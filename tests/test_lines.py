"""Totals along lines, against plain totals and against the statements of [9.1] and [9.2]."""

import math
import random
import unittest
from fractions import Fraction

from tests.plain import exact, exchanged_sum, plain_tooth
from tests.samples import LONGEST, SIXTY, SIXTY_ONE, SMALL_PAIRS, Refusals, coprime, not_integers, random_pairs
from toothchain.base.ratios import Ratio
from toothchain.counts.lines import (
    line_moment, line_row, line_square, line_sum, rest_square, rest_total, tooth_line, whole_steps,
)

CALLS = (line_sum, line_moment, line_square, line_row, whole_steps, rest_total, rest_square, tooth_line)
TOTALS = (line_sum, line_moment, line_square)
INTEGERS = (line_sum, line_moment, line_square, whole_steps, rest_total, rest_square)


def small_lines():
    source = random.Random(9)
    for n in range(0, 5):
        for a in range(-4, 5):
            for c in (-7, -3, -1, 0, 1, 5):
                for m in (1, 2, 3, 6):
                    yield n, a, c, m
    for _ in range(500):
        yield source.randrange(60), source.randrange(-99, 99), source.randrange(-99, 99), source.randrange(1, 50)


def long_lines():
    """Lines of many digits, each with few enough points to add up their values one by one."""
    source = random.Random(10)
    for a, m in [LONGEST, LONGEST[::-1], (-SIXTY, SIXTY - 1), (SIXTY, 1), (1, SIXTY), *random_pairs(10, many=3)]:
        yield source.randrange(40), a, source.randrange(-SIXTY, SIXTY), m
        yield 30, a, 0, m


def wide_lines():
    """Lines with more points than anyone goes through."""
    source = random.Random(11)
    for a, m in [LONGEST, LONGEST[::-1], (-SIXTY, SIXTY - 1), (SIXTY, 1), (1, SIXTY), (0, 7), *random_pairs(12, many=3)]:
        yield SIXTY, a, source.randrange(-SIXTY, SIXTY), m
        yield source.randrange(10 ** 40), a, source.randrange(-m, m), m


SMALL = [*small_lines(), *long_lines()]
WIDE = list(wide_lines())


def values(n, a, c, m):
    return [a * i + c for i in range(n)]


class SmallTests(unittest.TestCase):
    def test_totals(self):
        for n, a, c, m in SMALL:
            floors = [value // m for value in values(n, a, c, m)]
            self.assertEqual(line_sum(n, a, c, m), sum(floors))
            self.assertEqual(line_moment(n, a, c, m), sum(i * floor for i, floor in enumerate(floors)))
            self.assertEqual(line_square(n, a, c, m), sum(floor * floor for floor in floors))

    def test_row(self):
        for n, a, c, m in SMALL:
            row = line_row(n, a, c, m)
            self.assertIs(type(row), tuple)
            self.assertEqual(row, tuple(value // m for value in values(n, a, c, m)))

    def test_whole_steps(self):
        for n, a, c, m in SMALL:
            self.assertEqual(whole_steps(n, a, c, m), sum(value % m == 0 for value in values(n, a, c, m)))

    def test_rests(self):
        for n, a, c, m in SMALL:
            rests = [value % m for value in values(n, a, c, m)]
            self.assertEqual(rest_total(n, a, c, m), sum(rests))
            self.assertEqual(rest_square(n, a, c, m), sum(rest * rest for rest in rests))

    def test_teeth(self):
        for n, a, c, m in SMALL:
            value = tooth_line(n, a, c, m)
            self.assertIs(type(value), Ratio)
            self.assertEqual(exact(value), sum((plain_tooth(Fraction(one, m)) for one in values(n, a, c, m)), Fraction(0)))

    def test_kinds_of_values(self):
        for call in INTEGERS:
            for line in ((0, 1, 2, 3), (4, 3, 1, 2), (5, -3, 0, 1), (SIXTY, 5, 5, 12)):
                self.assertIs(type(call(*line)), int)

    def test_no_points(self):
        for a, c, m in [(0, 0, 1), (5, -7, 3), (-SIXTY, SIXTY, SIXTY)]:
            self.assertEqual([call(0, a, c, m) for call in CALLS], [0, 0, 0, (), 0, 0, 0, Ratio(0)])

    def test_one_for_the_modulus(self):
        for n, a, c in [(0, 3, 4), (7, 3, -4), (7, -3, 4), (9, 0, 2)]:
            row = tuple(values(n, a, c, 1))
            self.assertEqual(line_row(n, a, c, 1), row)
            self.assertEqual([call(n, a, c, 1) for call in INTEGERS[3:]], [n, 0, 0])
            self.assertEqual(tooth_line(n, a, c, 1), 0)

    def test_named_arguments(self):
        for call in CALLS:
            self.assertEqual(call(m=2, c=1, a=3, n=4), call(4, 3, 1, 2))


class LawTests(unittest.TestCase):
    """The statements of [9.1] and [9.2]."""

    def test_moment_and_sum_of_teeth(self):
        for a, b in coprime([*SMALL_PAIRS, LONGEST, LONGEST[::-1], *random_pairs(14)]):
            moment = b * (Fraction(a * (b - 1) * (2 * b - 1), 6 * b) - Fraction(b - 1, 4) - exchanged_sum(a, b))
            self.assertEqual(line_moment(b, a, 0, b), moment)
            self.assertEqual(line_sum(b, a, 0, b), (a - 1) * (b - 1) // 2)
            self.assertEqual(tooth_line(b, a, 0, b), 0)
            self.assertEqual(whole_steps(b, a, 0, b), 1)
            self.assertEqual(rest_total(b, a, 0, b), b * (b - 1) // 2)
            self.assertEqual(rest_square(b, a, 0, b), b * (b - 1) * (2 * b - 1) // 6)

    def test_lines_that_are_put_together(self):
        for n, a, c, m in SMALL[::5] + WIDE:
            for r in sorted({0, min(1, n), n // 3, n}):
                later = n - r, a, c + a * r, m
                if abs(later[2]) > SIXTY:
                    continue
                self.assertEqual(line_sum(n, a, c, m), line_sum(r, a, c, m) + line_sum(*later))
                self.assertEqual(line_moment(n, a, c, m),
                                 line_moment(r, a, c, m) + line_moment(*later) + r * line_sum(*later))
                self.assertEqual(line_square(n, a, c, m), line_square(r, a, c, m) + line_square(*later))
                for call in (whole_steps, rest_total, rest_square, tooth_line):
                    self.assertEqual(call(n, a, c, m), call(r, a, c, m) + call(*later))

    def test_later_starts(self):
        for n, a, c, m in SMALL[::5] + WIDE:
            if abs(c + m) <= SIXTY:
                self.assertEqual(line_sum(n, a, c + m, m), line_sum(n, a, c, m) + n)
                self.assertEqual(line_moment(n, a, c + m, m), line_moment(n, a, c, m) + n * (n - 1) // 2)
                self.assertEqual(line_square(n, a, c + m, m), line_square(n, a, c, m) + 2 * line_sum(n, a, c, m) + n)

    def test_steeper_lines(self):
        for n, a, c, m in SMALL[::5] + WIDE:
            if abs(a + m) <= SIXTY:
                ones, squares = n * (n - 1) // 2, n * (n - 1) * (2 * n - 1) // 6
                self.assertEqual(line_sum(n, a + m, c, m), line_sum(n, a, c, m) + ones)
                self.assertEqual(line_moment(n, a + m, c, m), line_moment(n, a, c, m) + squares)
                self.assertEqual(line_square(n, a + m, c, m),
                                 line_square(n, a, c, m) + 2 * line_moment(n, a, c, m) + squares)

    def test_level_lines(self):
        for n in (0, 1, 17, SIXTY):
            for c in (-10, 0, 10, SIXTY, -SIXTY):
                for m in (1, 3, SIXTY):
                    floor, rest = divmod(c, m)
                    self.assertEqual([call(n, 0, c, m) for call in TOTALS],
                                     [n * floor, n * (n - 1) // 2 * floor, n * floor * floor])
                    self.assertEqual([call(n, 0, c, m) for call in INTEGERS[3:]],
                                     [0 if rest else n, n * rest, n * rest * rest])
                    self.assertEqual(exact(tooth_line(n, 0, c, m)), n * plain_tooth(Fraction(c, m)))


class WideTests(unittest.TestCase):
    """Lines of sixty digits, by whole periods and what remains, and by turning them round."""

    def test_whole_periods(self):
        for period, a, c in [(7, 3, 2), (12, -5, 0), (30, 12, 18), (1, 4, 9)]:
            many = SIXTY // period
            n = many * period
            self.assertEqual(whole_steps(n, a, c, period), many * whole_steps(period, a, c, period))
            self.assertEqual(rest_total(n, a, c, period), many * rest_total(period, a, c, period))
            self.assertEqual(rest_square(n, a, c, period), many * rest_square(period, a, c, period))
            self.assertEqual(tooth_line(n, a, c, period), tooth_line(period, a, c, period) * many)

    def test_turned_round(self):
        for n, a, c, m in WIDE:
            last = c + a * (n - 1)
            if n > 0 and abs(last) <= SIXTY:
                self.assertEqual(line_sum(n, a, c, m), line_sum(n, -a, last, m))
                self.assertEqual(line_square(n, a, c, m), line_square(n, -a, last, m))
                both = line_moment(n, a, c, m) + line_moment(n, -a, last, m)
                self.assertEqual(both, (n - 1) * line_sum(n, a, c, m))
                self.assertEqual(rest_square(n, a, c, m), rest_square(n, -a, last, m))

    def test_rests_and_floors(self):
        for n, a, c, m in WIDE:
            total = a * n * (n - 1) // 2 + c * n
            self.assertEqual(m * line_sum(n, a, c, m) + rest_total(n, a, c, m), total)
            self.assertEqual(exact(tooth_line(n, a, c, m)),
                             Fraction(rest_total(n, a, c, m), m) - Fraction(n - whole_steps(n, a, c, m), 2))
            self.assertTrue(0 <= rest_total(n, a, c, m) <= n * (m - 1))
            self.assertTrue(0 <= rest_square(n, a, c, m) <= (m - 1) * rest_total(n, a, c, m))

    def test_known_values(self):
        half = SIXTY * (SIXTY - 1) // 2
        self.assertEqual([call(SIXTY, 1, 0, 1) for call in TOTALS],
                         [half, half * (2 * SIXTY - 1) // 3, half * (2 * SIXTY - 1) // 3])
        self.assertEqual(whole_steps(SIXTY, 6, 3, 9), SIXTY // 3)
        self.assertEqual(whole_steps(SIXTY, 6, 2, 9), 0)
        self.assertEqual(whole_steps(SIXTY, SIXTY - 1, 1, SIXTY), 1)
        self.assertEqual(math.gcd(*LONGEST), 1)
        self.assertEqual(whole_steps(LONGEST[1] - 1, LONGEST[0], LONGEST[0], LONGEST[1]), 0)


class RefusalTests(unittest.TestCase, Refusals):
    def test_wrong_arguments(self):
        for call in CALLS:
            for value in [-1, -SIXTY, *not_integers()]:
                self.assert_no_number(value, call, value, 3, 1, 2)
                self.assert_no_number(value, call, value, "a", "c", 0)
            for value in not_integers():
                self.assert_no_number(value, call, 4, value, 1, 2)
                self.assert_no_number(value, call, 4, value, "c", 0)
                self.assert_no_number(value, call, 4, 3, value, 2)
                self.assert_no_number(value, call, 4, 3, value, 0)
            for value in [0, -1, -SIXTY, *not_integers()]:
                self.assert_no_number(value, call, 4, 3, 1, value)
                self.assert_no_number(value, call, 0, 0, 0, value)

    def test_sixty_digits(self):
        for call in CALLS:
            if call != line_row:
                call(SIXTY, SIXTY, SIXTY, SIXTY)
                call(SIXTY, -SIXTY, -SIXTY, 1)
            for at in range(4):
                arguments = [5, 3, 1, 2]
                arguments[at] = SIXTY_ONE
                self.assert_no_number(SIXTY_ONE, call, *arguments)

    def test_limit_of_rows(self):
        self.assertEqual(line_row(2000, 3, 1, 2)[-1], (3 * 1999 + 1) // 2)
        self.assertEqual(len(line_row(2000, -SIXTY, SIXTY, 7)), 2000)
        for n in (2001, SIXTY):
            self.assert_too_many(2000, line_row, n, 3, 1, 2)
            # Behind the word "then": wrong arguments come before the limit.
            self.assert_no_number("a", line_row, n, "a", 1, 2)
            self.assert_no_number(None, line_row, n, 3, None, 2)
            self.assert_no_number(0, line_row, n, 3, 1, 0)


if __name__ == "__main__":
    unittest.main()
