"""Ratios and their totals, against the fractions of Python's library."""

import sys
import unittest
from fractions import Fraction

from tests.samples import SIXTY, SIXTY_ONE, Refusals, long_integers, not_integers, not_numbers, plain_wrong_values
from toothchain.base.ladders import Ladder
from toothchain.base.ratios import Ratio, total
from toothchain.errors import InvalidRatio, ZeroDivisor

SMALL = [(top, bottom) for top in range(-7, 8) for bottom in range(-6, 7) if bottom]
LARGE = [
    (SIXTY, 1), (-SIXTY, 2), (1, SIXTY), (SIXTY, -(SIXTY - 1)), (10 ** 59, 10 ** 58 + 1), (2 ** 199, 3 ** 125),
    (-(6 ** 77), 10 ** 59),
]
INTEGERS = [0, 1, -1, 2, -5, 12, SIXTY, -SIXTY]


def fraction(ratio):
    return Fraction(ratio.top, ratio.bottom)


def pairs():
    """Ratios beside equal fractions: every small one with every second one, and the large ones."""
    for one in SMALL[::3] + LARGE:
        for other in SMALL[::5] + LARGE:
            yield Ratio(*one), Fraction(*one), Ratio(*other), Fraction(*other)


class RatioCase(unittest.TestCase):
    def assert_ratio(self, value, expected):
        self.assertIs(type(value), Ratio)
        self.assertIs(type(value.top), int)
        self.assertIs(type(value.bottom), int)
        self.assertEqual((value.top, value.bottom), (expected.numerator, expected.denominator))


class MakingTests(RatioCase, Refusals):
    def test_lowest_terms(self):
        for top, bottom in SMALL + LARGE:
            self.assert_ratio(Ratio(top, bottom), Fraction(top, bottom))

    def test_bottom_is_one_if_left_out(self):
        for top in INTEGERS:
            self.assert_ratio(Ratio(top), Fraction(top))

    def test_named_arguments(self):
        self.assert_ratio(Ratio(top=6, bottom=-8), Fraction(-3, 4))

    def test_zero_has_bottom_one(self):
        for bottom in (1, -1, 5, -3, SIXTY):
            self.assertEqual((Ratio(0, bottom).top, Ratio(0, bottom).bottom), (0, 1))

    def test_sixty_digits_are_accepted_and_sixty_one_are_not(self):
        self.assertEqual(Ratio(SIXTY, SIXTY).top, 1)
        self.assertEqual(Ratio(-SIXTY).top, -SIXTY)
        self.assertEqual(Ratio(1, -SIXTY).bottom, SIXTY)
        for value in long_integers():
            self.assert_refused(InvalidRatio, Ratio, value)
            self.assert_refused(InvalidRatio, Ratio, 1, value)

    def test_wrong_arguments(self):
        for value in not_integers():
            self.assert_refused(InvalidRatio, Ratio, value)
            self.assert_refused(InvalidRatio, Ratio, value, 3)
            self.assert_refused(InvalidRatio, Ratio, 3, value)
            self.assert_refused(InvalidRatio, Ratio, value, value)

    def test_bottom_zero_comes_after_every_other_error(self):
        for top in INTEGERS:
            self.assert_refused(ZeroDivisor, Ratio, top, 0)
        for value in not_integers():
            self.assert_refused(InvalidRatio, Ratio, value, 0)


class PropertyTests(RatioCase):
    def test_floor_part_and_whole(self):
        for top, bottom in SMALL + LARGE:
            ratio, exact = Ratio(top, bottom), Fraction(top, bottom)
            floor = exact.numerator // exact.denominator
            self.assertIs(type(ratio.floor), int)
            self.assertEqual(ratio.floor, floor)
            self.assert_ratio(ratio.part, exact - floor)
            self.assertIs(ratio.is_whole, exact.denominator == 1)

    def test_never_change(self):
        ratio = Ratio(6, -8)
        for name in ("top", "bottom", "floor", "part", "is_whole"):
            with self.assertRaises(AttributeError):
                setattr(ratio, name, 1)
        other = Ratio(1, 2)
        results = [ratio + other, ratio - 1, ratio * other, -ratio, abs(ratio), ratio.over(other), ratio.power(3)]
        ratio += 1
        self.assertEqual(len(results), 7)
        self.assert_ratio(ratio, Fraction(1, 4))
        self.assert_ratio(other, Fraction(1, 2))

    def test_cannot_be_iterated_over(self):
        for value in (Ratio(1, 2), Ratio(3)):
            with self.assertRaises(TypeError):
                iter(value)


class OperatorTests(RatioCase, Refusals):
    def test_with_ratios(self):
        for one, exact, other, other_exact in pairs():
            self.assert_ratio(one + other, exact + other_exact)
            self.assert_ratio(one - other, exact - other_exact)
            self.assert_ratio(one * other, exact * other_exact)

    def test_with_integers_on_either_side(self):
        for top, bottom in SMALL + LARGE:
            ratio, exact = Ratio(top, bottom), Fraction(top, bottom)
            for integer in INTEGERS:
                self.assert_ratio(ratio + integer, exact + integer)
                self.assert_ratio(integer + ratio, integer + exact)
                self.assert_ratio(ratio - integer, exact - integer)
                self.assert_ratio(integer - ratio, integer - exact)
                self.assert_ratio(ratio * integer, exact * integer)
                self.assert_ratio(integer * ratio, integer * exact)

    def test_opposite_and_absolute_value(self):
        for top, bottom in SMALL + LARGE:
            self.assert_ratio(-Ratio(top, bottom), -Fraction(top, bottom))
            self.assert_ratio(abs(Ratio(top, bottom)), abs(Fraction(top, bottom)))

    def test_long_results_can_be_used_again(self):
        ratio, exact = Ratio(SIXTY, 10 ** 59 + 9), Fraction(SIXTY, 10 ** 59 + 9)
        for _ in range(5):
            ratio, exact = ratio * ratio - 1, exact * exact - 1
            self.assert_ratio(ratio, exact)
        self.assert_ratio(-ratio + ratio.part, -exact + exact % 1)
        self.assert_ratio(SIXTY - ratio, SIXTY - exact)
        self.assertEqual(ratio.floor, exact.numerator // exact.denominator)

    def test_wrong_operands(self):
        ratio = Ratio(1, 2)
        for value in not_numbers():
            self.assert_refused(InvalidRatio, lambda: ratio + value)
            self.assert_refused(InvalidRatio, lambda: value + ratio)
            self.assert_refused(InvalidRatio, lambda: ratio - value)
            self.assert_refused(InvalidRatio, lambda: value - ratio)
            self.assert_refused(InvalidRatio, lambda: ratio * value)
            self.assert_refused(InvalidRatio, lambda: value * ratio)

    def test_truth(self):
        self.assertIs(bool(Ratio(0, 7)), False)
        self.assertIs(bool(Ratio(1, 7)), True)
        self.assertIs(bool(Ratio(-1)), True)


class ComparisonTests(RatioCase, Refusals):
    def test_compare_ratios(self):
        for one, exact, other, other_exact in pairs():
            expected = (exact > other_exact) - (exact < other_exact)
            self.assertEqual(one.compare(other), expected)
            self.assertIs(type(one.compare(other)), int)

    def test_compare_integers(self):
        for top, bottom in SMALL + LARGE:
            for integer in INTEGERS:
                exact = Fraction(top, bottom)
                self.assertEqual(Ratio(top, bottom).compare(integer), (exact > integer) - (exact < integer))

    def test_compare_wrong_values(self):
        for value in not_numbers():
            self.assert_refused(InvalidRatio, Ratio(1, 2).compare, value)

    def test_equal_to_ratios(self):
        for one, exact, other, other_exact in pairs():
            self.assertIs(one == other, exact == other_exact)
            self.assertIs(one != other, exact != other_exact)

    def test_equal_to_integers_of_any_length(self):
        for integer in INTEGERS:
            self.assertIs(Ratio(integer) == integer, True)
            self.assertIs(integer == Ratio(integer), True)
            self.assertIs(Ratio(integer) != integer, False)
            self.assertIs(Ratio(integer) == integer + 1, False)
            self.assertIs(Ratio(integer, SIXTY - 2) == integer, integer == 0)
        long = Ratio(10 ** 59).power(40)
        self.assertIs(long == 10 ** 2360, True)
        self.assertIs(10 ** 2360 == long, True)
        self.assertIs(long == 10 ** 2360 + 1, False)
        self.assertIs(long != 10 ** 2360 + 1, True)
        self.assertIs(Ratio(SIXTY) + 1 == SIXTY_ONE, True)

    def test_equal_to_nothing_else(self):
        for value in plain_wrong_values() + [Ladder(1, 2), InvalidRatio("1"), Ratio]:
            for ratio in (Ratio(1), Ratio(0), Ratio(1, 2)):
                self.assertIs(ratio == value, False)
                self.assertIs(value == ratio, False)
                self.assertIs(ratio != value, True)
                self.assertIs(value != ratio, True)

    def test_long_integers_are_compared_without_errors(self):
        for value in long_integers():
            self.assertIs(Ratio(1) == value, False)
            self.assertIs(Ratio(1) != value, True)


class MethodTests(RatioCase, Refusals):
    def test_over(self):
        for one, exact, other, other_exact in pairs():
            if other_exact:
                self.assert_ratio(one.over(other), exact / other_exact)
        for top, bottom in SMALL + LARGE:
            for integer in INTEGERS[1:]:
                self.assert_ratio(Ratio(top, bottom).over(integer), Fraction(top, bottom) / integer)

    def test_over_zero(self):
        for ratio in (Ratio(0), Ratio(1), Ratio(-2, 3)):
            self.assert_refused(ZeroDivisor, ratio.over, 0)
            self.assert_refused(ZeroDivisor, ratio.over, Ratio(0, 5))

    def test_over_wrong_values(self):
        for value in not_numbers():
            self.assert_refused(InvalidRatio, Ratio(1, 2).over, value)

    def test_power(self):
        for top, bottom in [(0, 1), (1, 1), (-1, 1), (2, 3), (-2, 3), (-5, 1), *LARGE]:
            for exponent in (0, 1, 2, 3, 7, 39, 40):
                self.assert_ratio(Ratio(top, bottom).power(exponent), Fraction(top, bottom) ** exponent)

    def test_power_zero_is_one(self):
        self.assert_ratio(Ratio(0).power(0), Fraction(1))
        self.assert_ratio(Ratio(-2, 3).power(0), Fraction(1))

    def test_wrong_exponents(self):
        for exponent in [-1, 41, -40, SIXTY, -SIXTY, *not_integers()]:
            self.assert_no_number(exponent, Ratio(2, 3).power, exponent)
            self.assert_no_number(exponent, Ratio(0).power, exponent)
            self.assert_no_number(exponent, Ratio(1).power, exponent)

    def test_text(self):
        for top, bottom in SMALL + LARGE:
            self.assertEqual(str(Ratio(top, bottom)), str(Fraction(top, bottom)))


class LongTextTests(unittest.TestCase):
    """Python itself refuses texts of integers with more than 4300 digits."""

    def test_longer_than_python_allows(self):
        ratio = Ratio(10 ** 59 + 3, -(10 ** 58 + 9)).power(40).power(3)
        self.assertGreater(len(str(ratio)), 14000)
        self.assertEqual(str(-ratio), self.plain_text(-ratio))
        self.assertEqual(str(ratio), self.plain_text(ratio))

    def test_inner_zeros_stay(self):
        text = str(Ratio(10 ** 59).power(40).power(40) + 7)
        self.assertEqual(text, "1" + "0" * 94399 + "7")
        self.assertEqual(str(-Ratio(10).power(40).power(40)), "-1" + "0" * 1600)

    def test_lengths_around_sixty_digits(self):
        for digits in (59, 60, 61, 119, 120, 121, 180):
            for extra in (-1, 0, 1):
                ratio = Ratio(10).power(40).power(digits // 40) * Ratio(10).power(digits % 40) + extra
                self.assertEqual(str(ratio), str(10 ** digits + extra))
                self.assertEqual(str(-ratio), str(-(10 ** digits) - extra))

    def plain_text(self, ratio):
        before = sys.get_int_max_str_digits()
        sys.set_int_max_str_digits(0)
        try:
            return f"{ratio.top}/{ratio.bottom}"
        finally:
            sys.set_int_max_str_digits(before)


class TotalTests(RatioCase, Refusals):
    def test_totals(self):
        self.assert_ratio(total(()), Fraction(0))
        self.assert_ratio(total((0,)), Fraction(0))
        self.assert_ratio(total((5,)), Fraction(5))
        self.assert_ratio(total((Ratio(-1, 3),)), Fraction(-1, 3))
        self.assert_ratio(total((1, Ratio(1, 2), Ratio(1, 2))), Fraction(2))
        self.assert_ratio(total((SIXTY, SIXTY, -1)), Fraction(2 * SIXTY - 1))
        self.assert_ratio(total((SIXTY, Ratio(-SIXTY))), Fraction(0))

    def test_many_numbers(self):
        numbers = tuple(Ratio(top, bottom) for top, bottom in SMALL + LARGE)
        self.assert_ratio(total(numbers), sum((fraction(one) for one in numbers), Fraction(0)))

    def test_long_ratios_are_numbers(self):
        long = Ratio(SIXTY, 7).power(3)
        self.assert_ratio(total((long, 1, long)), 2 * fraction(long) + 1)

    def test_no_tuple(self):
        for value in not_integers() + [0, 1, -3, [Ratio(1)], {1: 1}, "12"]:
            if value != () and not isinstance(value, tuple):
                self.assert_refused(InvalidRatio, total, value)

    def test_tuples_with_something_else(self):
        for value in not_numbers():
            self.assert_refused(InvalidRatio, total, (value,))
            self.assert_refused(InvalidRatio, total, (1, Ratio(1, 2), value))
            self.assert_refused(InvalidRatio, total, (value, 1))

    def test_arguments_stay_as_they_are(self):
        numbers = (1, Ratio(1, 2), -3)
        first, second = total(numbers), total(numbers)
        self.assertEqual(first, second)
        self.assertEqual([str(one) for one in numbers], ["1", "1/2", "-3"])
        wrong = [1, [2]]
        self.assert_refused(InvalidRatio, total, wrong)
        self.assertEqual(wrong, [1, [2]])


if __name__ == "__main__":
    unittest.main()
