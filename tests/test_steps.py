"""Integers that two step sizes reach, and their gaps, against trying all pairs."""

import math
import unittest
from fractions import Fraction

from tests.samples import LONGEST, SIXTY, SIXTY_ONE, Refusals, not_integers, random_pairs
from toothchain.counts.steps import (
    MAX_LIST, all_gaps, all_ways, gap_at, gap_count, gap_total, gaps_below, last_gap, reaches, ways,
)

SIZES = [(a, b) for a in range(1, 12) for b in range(1, 12) if math.gcd(a, b) == 1] + [(2, 31), (31, 7), (13, 17)]
LARGE = [
    (SIXTY, SIXTY - 1), (2, SIXTY), (SIXTY, 2), (1, SIXTY), (SIXTY, 1), (2 ** 199, 3 ** 125), (10 ** 30 + 7, 10 ** 29 - 9),
    (10 ** 59 + 7, 10 ** 12), LONGEST, *[(abs(a) + 1, b) for a, b in random_pairs(5) if math.gcd(a, b + a) == 1],
]
LARGE = [(a, b) for a, b in LARGE if math.gcd(a, b) == 1]
WITH_ONE = (reaches, ways, all_ways, gaps_below, gap_at)
WITHOUT = (gap_count, gap_total, last_gap, all_gaps)


def plain_ways(a, b, number):
    return tuple((x, (number - a * x) // b) for x in range(number // a + 1) if (number - a * x) % b == 0)


def plain_gaps(a, b):
    return [n for n in range(a * b) if not plain_ways(a, b, n)]


class WayTests(unittest.TestCase):
    def test_small_numbers(self):
        for a, b in SIZES:
            for number in range(-a * b - 3, 3 * a * b + 3):
                expected = plain_ways(a, b, number)
                self.assertEqual(all_ways(a, b, number), expected, (a, b, number))
                self.assertEqual(ways(a, b, number), len(expected), (a, b, number))
                self.assertIs(reaches(a, b, number), bool(expected))

    def test_kinds(self):
        self.assertIs(type(ways(3, 5, 15)), int)
        self.assertEqual([type(one) for one in (all_ways(3, 5, 15), *all_ways(3, 5, 15))], [tuple] * 3)
        self.assertEqual({type(one) for pair in all_ways(3, 5, 15) for one in pair}, {int})

    def test_great_numbers(self):
        for a, b in LARGE:
            for number in (0, a, b, a + b, 5 * a + 3 * b, SIXTY, SIXTY // 2, 12345):
                if number > SIXTY:
                    continue
                many = ways(a, b, number)
                # As [11.2] says.
                u, v = number * pow(b, -1, a) % a, number * pow(a, -1, b) % b
                self.assertEqual(many, Fraction(number, a * b) - Fraction(u, a) - Fraction(v, b) + 1)
                self.assertIn(many - number // (a * b), (0, 1))
                self.assertIs(reaches(a, b, number), many > 0)
                if number + a * b <= SIXTY:
                    self.assertEqual(ways(a, b, number + a * b), many + 1)
                if many <= 2000:
                    found = all_ways(a, b, number)
                    self.assertEqual((len(found), list(found)), (many, sorted(found)))
                    self.assertTrue(all(min(x, y) >= 0 and a * x + b * y == number for x, y in found))

    def test_numbers_below_zero(self):
        for a, b in [(1, 1), (3, 5), *LARGE]:
            for number in (-1, -a, -b, -SIXTY):
                self.assertEqual((reaches(a, b, number), ways(a, b, number), all_ways(a, b, number)), (False, 0, ()))
            self.assertEqual((reaches(a, b, 0), ways(a, b, 0), all_ways(a, b, 0)), (True, 1, ((0, 0),)))

    def test_sizes_of_one(self):
        self.assertEqual((ways(1, 1, 4), all_ways(1, 1, 2)), (5, ((0, 2), (1, 1), (2, 0))))
        self.assertEqual(ways(1, 1, SIXTY), SIXTY + 1)
        self.assertEqual(all_ways(1, SIXTY, SIXTY), ((0, 1), (SIXTY, 0)))
        self.assertEqual(all_ways(SIXTY, 1, SIXTY), ((0, SIXTY), (1, 0)))

    def test_reached_and_opposite(self):
        for a, b in [*SIZES, *LARGE]:
            last = a * b - a - b
            for number in (0, 1, a, b, a + b, last, last - 1, last - a, last // 2, last + 1):
                if abs(number) <= SIXTY and abs(last - number) <= SIXTY:
                    self.assertIsNot(reaches(a, b, number), reaches(a, b, last - number))


class GapTests(unittest.TestCase):
    def test_small_sizes(self):
        for a, b in SIZES:
            gaps = plain_gaps(a, b)
            self.assertEqual(all_gaps(a, b), tuple(gaps))
            self.assertEqual((gap_count(a, b), gap_total(a, b)), (len(gaps), sum(gaps)))
            self.assertEqual([gap_at(a, b, index) for index in range(len(gaps))], gaps)
            if gaps:
                self.assertEqual(last_gap(a, b), gaps[-1])
            for limit in range(-4, a * b + 4):
                self.assertEqual(gaps_below(a, b, limit), sum(one < limit for one in gaps), (a, b, limit))

    def test_kinds(self):
        self.assertEqual([type(call(3, 5)) for call in WITHOUT], [int, int, int, tuple])
        self.assertEqual([type(gaps_below(3, 5, 4)), type(gap_at(3, 5, 1))], [int, int])

    def test_great_sizes(self):
        for a, b in LARGE:
            count = (a - 1) * (b - 1) // 2
            self.assertEqual(gap_count(a, b), count)
            self.assertEqual(12 * gap_total(a, b), (a - 1) * (b - 1) * (2 * a * b - a - b - 1))
            self.assertEqual(gaps_below(a, b, 1), 0)
            self.assertEqual([gaps_below(a, b, limit) for limit in (0, -1, -SIXTY)], [0, 0, 0])
            for limit in (a, b, a + b, SIXTY, SIXTY // 7, 10 ** 9):
                if limit <= min(a, b):
                    # Of the integers below both sizes only 0 is reached.
                    self.assertEqual(gaps_below(a, b, limit), limit - 1)
                if limit <= SIXTY:
                    step = gaps_below(a, b, limit) - gaps_below(a, b, limit - 1)
                    self.assertEqual(step, 0 if reaches(a, b, limit - 1) else 1)
                if a * b - a - b < limit <= SIXTY:
                    self.assertEqual(gaps_below(a, b, limit), count)

    def test_great_gaps(self):
        for a, b in LARGE:
            count = gap_count(a, b)
            for index in (0, 1, 2, count // 3, count // 2, count - 2, count - 1, 10 ** 30):
                if 0 <= index < min(count, SIXTY_ONE):
                    gap = gap_at(a, b, index)
                    if gap < SIXTY:
                        self.assertIs(reaches(a, b, gap), False)
                        self.assertEqual((gaps_below(a, b, gap), gaps_below(a, b, gap + 1)), (index, index + 1))
            if 0 < count <= SIXTY_ONE:
                self.assertEqual(gap_at(a, b, count - 1), last_gap(a, b))
            if count:
                self.assertEqual(last_gap(a, b), a * b - a - b)
                self.assertEqual(gap_at(a, b, 0), 1)

    def test_halves_of_the_gaps(self):
        # By [11.1] there are as many integers that are reached up to the last gap.
        for a, b in [(10 ** 30 + 7, 10 ** 29 - 9), (3 ** 40, 2 ** 70), (10 ** 12 + 1, 10 ** 11)]:
            last = last_gap(a, b)
            for limit in (0, 1, last // 3, last // 2, last - a, last):
                reached = limit - gaps_below(a, b, limit)
                self.assertEqual(gap_count(a, b) - gaps_below(a, b, last + 1 - limit), reached)

    def test_no_gaps(self):
        for a, b in [(1, 1), (1, 9), (9, 1), (1, SIXTY), (SIXTY, 1)]:
            self.assertEqual((gap_count(a, b), gap_total(a, b), all_gaps(a, b)), (0, 0, ()))
            self.assertEqual([gaps_below(a, b, limit) for limit in (-4, 0, 1, 9, SIXTY)], [0] * 5)


class RefusalTests(unittest.TestCase, Refusals):
    def test_sizes_are_checked_first(self):
        wrong = (0, -1, -SIXTY, *not_integers())
        for value in wrong:
            for call in WITHOUT:
                self.assert_no_number(value, call, value, 0)
                self.assert_no_number(value, call, value, 5)
                self.assert_no_number(value, call, 5, value)
            for call in WITH_ONE:
                self.assert_no_number(value, call, value, "b", "c")
                self.assert_no_number(value, call, value, 5, 0)
                self.assert_no_number(value, call, 5, value, "c")
                self.assert_no_number(value, call, 5, value, 0)

    def test_numbers_come_before_common_factors(self):
        for call in WITH_ONE:
            for value in not_integers():
                self.assert_no_number(value, call, 3, 5, value)
                self.assert_no_number(value, call, 4, 6, value)
        for value in (-1, -SIXTY):
            self.assert_no_number(value, gap_at, 3, 5, value)
            self.assert_no_number(value, gap_at, 4, 6, value)

    def test_common_factors(self):
        for a, b in [(4, 6), (2, 2), (3, SIXTY), (SIXTY, SIXTY), (10 ** 59, 10 ** 30)]:
            for call in WITHOUT:
                self.assert_not_allowed(call, a, b)
            for call in WITH_ONE:
                for number in (0, 1, 10, SIXTY):
                    self.assert_not_allowed(call, a, b, number)
        self.assert_not_allowed(all_ways, 4, 6, -5)

    def test_sixty_digits(self):
        for call in WITHOUT:
            if call != all_gaps:
                self.assertGreater(call(SIXTY, SIXTY - 1), 0)
            self.assert_no_number(SIXTY_ONE, call, SIXTY_ONE, 1)
            self.assert_no_number(SIXTY_ONE, call, 1, SIXTY_ONE)
        for call in WITH_ONE:
            call(SIXTY, SIXTY - 1, SIXTY)
            for at in range(3):
                arguments = [3, 5, 1]
                arguments[at] = SIXTY_ONE
                self.assert_no_number(SIXTY_ONE, call, *arguments)
        longest_below = -SIXTY_ONE
        self.assert_no_number(longest_below, reaches, 3, 5, longest_below)

    def test_limit_of_ways(self):
        self.assertEqual(MAX_LIST, 2000)
        self.assertEqual(len(all_ways(3, 5, 15 * 1999)), 2000)
        self.assertEqual(len(all_ways(10 ** 20, 10 ** 20 + 1, 1999 * 10 ** 20 * (10 ** 20 + 1))), 2000)
        self.assertEqual(len(all_ways(1, 1, 1999)), 2000)
        for number in (15 * 2000, SIXTY):
            self.assert_too_many(2000, all_ways, 3, 5, number)
        self.assert_too_many(2000, all_ways, 1, 1, 2000)
        # Behind the word "then": a common factor comes before the limit.
        self.assert_not_allowed(all_ways, 3, 6, SIXTY)

    def test_limit_of_gaps(self):
        for a, b in [(2, 4001), (4001, 2), (41, 101), (5, 1001)]:
            self.assertEqual((len(all_gaps(a, b)), gap_count(a, b)), (2000, 2000))
            self.assertEqual(list(all_gaps(a, b)), sorted(all_gaps(a, b)))
        for a, b in [(2, 4003), (3, 2002), (4, 1335), (SIXTY, SIXTY - 1), (2, SIXTY)]:
            self.assertGreater(gap_count(a, b), 2000)
            self.assert_too_many(2000, all_gaps, a, b)
        self.assertEqual([gap_count(2, 4003), gap_count(3, 2002)], [2001, 2001])
        self.assert_not_allowed(all_gaps, 4000, 4002)

    def test_missing_gaps(self):
        for a, b in [(1, 1), (1, 9), (SIXTY, 1)]:
            self.assert_not_allowed(last_gap, a, b)
            for index in (0, 1, SIXTY):
                self.assert_no_number(index, gap_at, a, b, index)
        for a, b in [(3, 5), (2, 3), (7, 10 ** 20)]:
            count = gap_count(a, b)
            self.assertEqual(gap_at(a, b, count - 1), last_gap(a, b))
            for index in (count, count + 1, SIXTY):
                self.assert_no_number(index, gap_at, a, b, index)


if __name__ == "__main__":
    unittest.main()
