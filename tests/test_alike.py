"""Sums that are 0, equal or alike, against plain sums of all integers below b."""

import math
import unittest
from fractions import Fraction

from tests.plain import exact, exchanged_sum, plain_sum, ratio
from tests.samples import (
    LARGE_PAIRS, LONGEST, SIXTY, SIXTY_ONE, SMALL_PAIRS, Refusals, not_integers, not_numbers, random_pairs,
)
from toothchain.base.ratios import Ratio
from toothchain.errors import InvalidRatio
from toothchain.sums.alike import (
    MAX_CLASSES, has_whole_twelfths, have_equal_sums, have_like_rests, is_zero_sum, nearest, rest_classes, sum_classes,
    twelfths, who_has, zeros,
)

LARGE = [*LARGE_PAIRS, LONGEST, LONGEST[::-1], *random_pairs(13)]
PRIMES = [2, 3, 5, 7, 11, 13, 17, 41]


def units(b):
    return [a for a in range(b) if math.gcd(a, b) == 1]


def plain_sums(b):
    return {a: plain_sum(a, b) for a in units(b)}


def grouped(b, alike):
    """The integers below b that are coprime to it in groups, each with those that are alike to its first one."""
    sums, groups = plain_sums(b), []
    for a in sums:
        group = [one for one in groups if alike(sums[one[0]], sums[a])]
        if group:
            group[0].append(a)
        else:
            groups.append([a])
    return tuple(tuple(one) for one in groups)


class PairTests(unittest.TestCase, Refusals):
    def test_twelfths(self):
        for a, b in SMALL_PAIRS:
            self.assertIs(type(twelfths(a, b)), Ratio)
            self.assertEqual(exact(twelfths(a, b)), 12 * plain_sum(a, b))
        for a, b in LARGE:
            self.assertEqual(exact(twelfths(a, b)), 12 * exchanged_sum(a, b))

    def test_zero_sums_and_whole_twelfths(self):
        for a, b in [*SMALL_PAIRS, *LARGE, (2, 5), (4, 10), (6, 15), (5, 13), (10 ** 29, 10 ** 58 + 1)]:
            value = exchanged_sum(a, b)
            self.assertIs(is_zero_sum(a, b), value == 0)
            self.assertIs(has_whole_twelfths(a, b), (12 * value).denominator == 1)

    def test_they_are_the_same(self):
        for a, b in [*SMALL_PAIRS, *LARGE]:
            p, q = a // math.gcd(a, b), b // math.gcd(a, b)
            divides = (p * p + 1) % q == 0
            self.assertEqual((is_zero_sum(a, b), has_whole_twelfths(a, b)), (divides, divides))

    def test_edges(self):
        for a, b, expected in [
            (0, 1, True), (0, 6, True), (SIXTY, 1, True), (1, 2, True), (-1, 2, True), (3, 6, True), (1, 3, False),
            (2, 3, False), (-2, 5, True), (-3, 5, True), (1, SIXTY, False), (SIXTY - 1, SIXTY, False),
            (4 * 10 ** 58 + 8, 10 ** 59 + 20, True),
        ]:
            self.assertIs(is_zero_sum(a, b), expected)
            self.assertIs(has_whole_twelfths(a, b), expected)

    def test_wrong_pairs(self):
        for call in (twelfths, is_zero_sum, has_whole_twelfths):
            self.assert_pair_is_checked(call)
            self.assert_no_number(SIXTY_ONE, call, SIXTY_ONE, 1)
            self.assert_no_number(SIXTY_ONE, call, 1, SIXTY_ONE)


class ComparingTests(unittest.TestCase, Refusals):
    def test_small_numbers(self):
        for b in range(1, 22):
            sums = {a: plain_sum(a, b) for a in range(-b, 2 * b) if math.gcd(a, b) == 1}
            for a in sums:
                for c in sums:
                    likes = (12 * (sums[a] - sums[c])).denominator == 1
                    self.assertIs(have_like_rests(a, c, b), likes)
                    self.assertIs(have_equal_sums(a, c, b), sums[a] == sums[c])
                    self.assertEqual(likes, (a - c) * (a * c - 1) % b == 0)

    def test_large_numbers(self):
        for a, b in [(a, b) for a, b in LARGE if math.gcd(a, b) == 1]:
            for c in (a % b, pow(a, -1, b), -(a % b), 1, a):
                difference = 12 * (exchanged_sum(a, b) - exchanged_sum(c, b))
                self.assertIs(have_like_rests(a, c, b), difference.denominator == 1)
                self.assertIs(have_equal_sums(a, c, b), difference == 0)
                self.assertIs(have_like_rests(c, a, b), difference.denominator == 1)
            self.assertIs(have_equal_sums(a, pow(a, -1, b), b), True)

    def test_equal_sums_have_like_rests_but_not_the_other_way(self):
        failing = []
        for b in range(1, 20):
            for a in units(b):
                for c in units(b):
                    if have_equal_sums(a, c, b):
                        self.assertTrue(have_like_rests(a, c, b))
                    elif have_like_rests(a, c, b):
                        failing.append(b)
        self.assertEqual(failing[0], 4)

    def test_primes(self):
        for b in PRIMES:
            for a in units(b):
                for c in units(b):
                    same = c in (a, pow(a, -1, b))
                    self.assertEqual((have_equal_sums(a, c, b), have_like_rests(a, c, b)), (same, same))

    def test_wrong_arguments(self):
        for call in (have_like_rests, have_equal_sums):
            for value in not_integers():
                self.assert_no_number(value, call, value, 3, 5)
                self.assert_no_number(value, call, 3, value, 5)
                self.assert_no_number(value, call, 3, 4, value)
                self.assert_no_number(value, call, value, "c", "b")
                self.assert_no_number(value, call, 3, value, "b")
                # Behind the word "then": a wrong b comes before a common factor.
                self.assert_no_number(value, call, 2, 4, value)
            for b in (0, -1, -SIXTY):
                self.assert_no_number(b, call, 3, 4, b)
            self.assert_no_number("c", call, 3, "c", 0)

    def test_not_coprime(self):
        for call in (have_like_rests, have_equal_sums):
            for a, c, b in [(2, 1, 4), (1, 2, 4), (2, 2, 4), (0, 1, 3), (1, 0, 3), (0, 0, SIXTY), (1, 3, SIXTY)]:
                self.assert_not_allowed(call, a, c, b)
            self.assertIs(call(0, 7, 1), True)

    def test_sixty_digits(self):
        for call in (have_like_rests, have_equal_sums):
            self.assertIs(call(1, SIXTY - 1, SIXTY), False)
            for at in range(3):
                arguments = [1, 1, 1]
                arguments[at] = SIXTY_ONE
                self.assert_no_number(SIXTY_ONE, call, *arguments)


class ClassTests(unittest.TestCase, Refusals):
    def test_sum_classes(self):
        for b in range(1, 60):
            self.assertEqual(sum_classes(b), grouped(b, lambda one, other: one == other))

    def test_rest_classes(self):
        for b in range(1, 60):
            self.assertEqual(rest_classes(b), grouped(b, lambda one, other: (12 * (one - other)).denominator == 1))

    def test_they_ascend(self):
        for b in (1, 2, 60, 97, 299, 300):
            for classes in (sum_classes(b), rest_classes(b)):
                self.assertEqual({type(one) for one in (classes, *classes)}, {tuple})
                self.assertEqual(list(classes), sorted(classes))
                self.assertEqual([list(one) for one in classes], [sorted(one) for one in classes])
                self.assertEqual(sorted(a for one in classes for a in one), units(b))

    def test_zeros(self):
        for b in [*range(1, 60), 65, 299, 300]:
            self.assertEqual(zeros(b), tuple(a for a in units(b) if exchanged_sum(a, b) == 0))

    def test_limits_and_wrong_integers(self):
        self.assertEqual(MAX_CLASSES, 300)
        for call in (sum_classes, rest_classes, zeros):
            self.assertIs(type(call(300)), tuple)
            for b in (301, 2000, SIXTY):
                self.assert_too_many(300, call, b)
            for b in [0, -1, -301, -SIXTY, *not_integers()]:
                self.assert_no_number(b, call, b)


class WishTests(unittest.TestCase, Refusals):
    def test_wishes_that_are_had(self):
        for b in range(1, 40):
            sums = plain_sums(b)
            for value in sums.values():
                having = tuple(a for a in sums if sums[a] == value)
                self.assertEqual(who_has(b, ratio(value)), having)
                self.assertEqual(nearest(b, ratio(value)), having)

    def test_wishes_that_are_not_had(self):
        for b in range(1, 40):
            sums = plain_sums(b)
            for wish in (Fraction(1, 1000), Fraction(-7, 5), Fraction(22, 7), Fraction(1, 12 * b + 1), 5, -5):
                self.assertEqual(who_has(b, ratio(wish)), tuple(a for a in sums if sums[a] == wish))
                least = min(abs(one - wish) for one in sums.values())
                expected = tuple(a for a in sums if abs(sums[a] - wish) == least)
                self.assertEqual(nearest(b, ratio(wish)), expected)

    def test_wishes_between_two_sums(self):
        for b in range(3, 40):
            sums = plain_sums(b)
            values = sorted(set(sums.values()))
            for low, high in zip(values, values[1:]):
                wish = ratio((low + high) / 2)
                self.assertEqual(nearest(b, wish), tuple(a for a in sums if sums[a] in (low, high)))
                self.assertEqual(who_has(b, wish), ())

    def test_wishes_out_of_reach(self):
        for wish in (SIXTY, Ratio(SIXTY), Ratio(SIXTY).power(30), 26):
            for b in (3, 5, 300):
                self.assertEqual((who_has(b, wish), nearest(b, wish)), ((), (1,)))
                self.assertEqual((who_has(b, -wish), nearest(b, -wish)), ((), (b - 1,)))
        self.assertEqual((nearest(1, SIXTY), nearest(2, -SIXTY), who_has(1, SIXTY)), ((0,), (1,), ()))

    def test_integers_and_whole_ratios(self):
        for b in (1, 2, 5, 10, 65):
            for wish in (0, Ratio(0), Ratio(0, 3)):
                self.assertEqual(who_has(b, wish), zeros(b))
        self.assertEqual((who_has(14, Ratio(13, 14)), who_has(14, 1)), ((1,), ()))

    def test_long_wishes(self):
        wish = Ratio(1, 18) + Ratio(1, SIXTY).power(3)
        self.assertEqual((who_has(3, wish), nearest(3, wish)), ((), (1,)))

    def test_wrong_arguments(self):
        for call in (who_has, nearest):
            for b in [0, -1, -SIXTY, *not_integers()]:
                self.assert_no_number(b, call, b, 0)
                self.assert_no_number(b, call, b, "wish")
            for wish in not_numbers():
                self.assert_refused(InvalidRatio, call, 5, wish)
                # Behind the word "then": a wish that is no number comes before the limit.
                self.assert_refused(InvalidRatio, call, 301, wish)
            for b in (301, SIXTY):
                self.assert_too_many(300, call, b, 0)
                self.assert_too_many(300, call, b, Ratio(1, 2))
            self.assertIs(type(call(300, 0)), tuple)
            self.assert_no_number(SIXTY_ONE, call, SIXTY_ONE, 0)
            self.assert_refused(InvalidRatio, call, 5, SIXTY_ONE)


if __name__ == "__main__":
    unittest.main()
