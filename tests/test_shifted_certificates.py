"""Certificates of shifted sums: those that the package makes, and what is judged to be one."""

import math
import random
import unittest
from fractions import Fraction

from tests.plain import (
    chain_up_to, exact, exchanged_shifted_sum, plain_shifted_exchange, plain_shifted_sum, plain_tooth, ratio,
    shifted_rows_up_to,
)
from tests.samples import (
    LARGE_PAIRS, LONGEST, SIXTY, SIXTY_ONE, Refusals, judged_values, not_integers, not_numbers, random_pairs,
)
from toothchain.base.ratios import Ratio
from toothchain.errors import InvalidRatio
from toothchain.sums.shifts import is_shifted_certificate, shifted_certificate, shifted_sum

HALF = Ratio(1, 2)
GOOD = (
    (2, 3, HALF, 0, Ratio(1, 9)), (3, 2, 0, HALF, Ratio(-1, 8)), (1, 2, HALF, HALF, Ratio(-1, 8)), (2, 1, HALF, HALF, 0),
)
EIGHT_HUNDRED = 10 ** 800 - 1
PAIRS = [(a, b) for b in range(1, 9) for a in range(-4, 12)]
SHIFTS = [Fraction(top, bottom) for bottom in (1, 2, 3, 5) for top in (-13, -1, 0, 1, 4)]
LARGE_SHIFTS = [Fraction(SIXTY, SIXTY - 1), Fraction(-SIXTY, 2), Fraction(7 ** 70, 2 ** 199), Fraction(0)]


def arguments():
    source = random.Random(5)
    for a, b in PAIRS:
        for _ in range(3):
            yield a, b, source.choice(SHIFTS), source.choice(SHIFTS)
        yield a, b, Fraction(0), Fraction(0)
    for a, b in [*LARGE_PAIRS, LONGEST, LONGEST[::-1], *random_pairs(44, many=2)]:
        yield a, b, source.choice(LARGE_SHIFTS), source.choice(LARGE_SHIFTS)


ARGUMENTS = list(arguments())


def is_whole(x):
    return Fraction(x).denominator == 1


def plain_follows(before, after):
    """Whether a rule leads from one row to the next, as [8.3] says it."""
    p, q, u, v, number = before[:2] + tuple(map(exact, before[2:]))
    new_p, new_q, new_u, new_v, new_number = after[:2] + tuple(map(exact, after[2:]))
    m = Fraction(p - new_p, q)
    return (
        new_q == q and is_whole(m) and is_whole(new_u - u - m * v) and is_whole(new_v - v) and new_number == number
        or (new_p, new_q, new_u, new_v, new_number) == (-p, q, -u, v, -number)
        or (new_p, new_q, new_u, new_v, new_number) == (p, q, -u, -v, number)
        or q % new_q == 0 and p == q // new_q * new_p and (new_u, new_v, new_number) == (u, v, number)
        or (new_p, new_q, new_u, new_v) == (q, p, v, u) and p >= 1 and math.gcd(p, q) == 1
        and number + new_number == plain_shifted_exchange(p, q, u, v)
    )


def row(p, q, u, v):
    """The true row of a pair with its shifts."""
    return p, q, ratio(u), ratio(v), ratio(exchanged_shifted_sum(p, q, Fraction(u), Fraction(v)))


def through(*states):
    return tuple(row(*one) for one in states)


def certificate(p, q, u, v):
    return shifted_certificate(p, q, ratio(u), ratio(v))


class Judging(unittest.TestCase, Refusals):
    def judged(self, value):
        return is_shifted_certificate(*value[0][:4], value)

    def assert_certificate(self, value):
        self.assertIs(self.judged(value), True)

    def assert_none(self, value, a=2, b=3, x=HALF, y=0):
        self.assertIs(is_shifted_certificate(a, b, x, y, value), False)


class MakingTests(Judging):
    def test_certificates(self):
        for a, b, x, y in ARGUMENTS:
            rows = certificate(a, b, x, y)
            self.assertEqual(rows[0][:4], (a, b, ratio(x), ratio(y)))
            self.assertEqual({type(one) for one in (rows, *rows)}, {tuple})
            self.assertEqual({tuple(map(type, one)) for one in rows}, {(int, int, Ratio, Ratio, Ratio)})
            self.assertTrue(all(plain_follows(one, other) for one, other in zip(rows, rows[1:])))
            p, q, u, v, number = rows[-1]
            self.assertEqual((q, exact(number)), (1, plain_tooth(p * exact(v) + exact(u)) * plain_tooth(exact(v))))
            self.assertIs(is_shifted_certificate(a, b, ratio(x), ratio(y), rows), True)

    def test_rows_are_true(self):
        for a, b, x, y in ARGUMENTS:
            if b < 20:
                for p, q, u, v, number in certificate(a, b, x, y):
                    if q < 20:
                        self.assertEqual(exact(number), plain_shifted_sum(p, q, exact(u), exact(v)))

    def test_first_row_has_the_sum(self):
        for a, b, x, y in ARGUMENTS:
            self.assertEqual(certificate(a, b, x, y)[0][4], shifted_sum(a, b, ratio(x), ratio(y)))

    def test_at_most_seven_hundred_rows_of_at_most_eight_hundred_digits(self):
        for a, b in [LONGEST, LONGEST[::-1], (-LONGEST[0], LONGEST[1])]:
            rows = certificate(a, b, *LARGE_SHIFTS[:2])
            self.assertLessEqual(len(rows), 700)
            for _, _, u, v, number in rows:
                for one in (u, v, number):
                    self.assertLessEqual(max(abs(one.top), one.bottom), EIGHT_HUNDRED)
        self.assertGreater(len(rows), 500)

    def test_one_row(self):
        for a in (0, 1, -7, SIXTY):
            self.assertEqual(len(certificate(a, 1, Fraction(1, 3), Fraction(2, 5))), 1)

    def test_wrong_arguments(self):
        self.assert_pair_is_checked(lambda a, b: shifted_certificate(a, b, "x", 0))
        self.assert_no_number(SIXTY_ONE, shifted_certificate, SIXTY_ONE, 1, 0, 0)
        for value in [*not_numbers(), Ratio(SIXTY) + 1, Ratio(1, SIXTY).power(2)]:
            self.assert_refused(InvalidRatio, shifted_certificate, 5, 12, value, 0)
            self.assert_refused(InvalidRatio, shifted_certificate, 5, 12, 0, value)


class ArgumentTests(Judging):
    def test_pairs_and_shifts(self):
        for value in (GOOD, None, (), "rows"):
            for x, y in ((HALF, 0), ("x", "y")):
                self.assert_pair_is_checked(lambda a, b: is_shifted_certificate(a, b, x, y, value))
            for wrong in [*not_numbers(), Ratio(SIXTY) + 1, Ratio(1, SIXTY).power(2)]:
                self.assert_refused(InvalidRatio, is_shifted_certificate, 2, 3, wrong, 0, value)
                self.assert_refused(InvalidRatio, is_shifted_certificate, 2, 3, HALF, wrong, value)
            self.assert_no_number(SIXTY_ONE, is_shifted_certificate, SIXTY_ONE, 3, HALF, 0, value)
            self.assert_no_number(SIXTY_ONE, is_shifted_certificate, 2, SIXTY_ONE, HALF, 0, value)

    def test_every_value_is_judged(self):
        for value in judged_values():
            self.assert_none(value)
            self.assert_none((value,))
            self.assert_none((value,), 0, 1, 0, 0)
            self.assert_none((*GOOD[:-1], value))
            self.assert_none((value, *GOOD[1:]))
            self.assert_none((GOOD[0], value, *GOOD[2:]))

    def test_rows_of_other_values(self):
        for value in not_integers():
            for at in range(len(GOOD)):
                for place in range(5):
                    changed = list(GOOD[at])
                    changed[place] = value
                    value_rows = (*GOOD[:at], tuple(changed), *GOOD[at + 1:])
                    same = isinstance(value, Ratio) and place >= 2 and value == GOOD[at][place]
                    self.assertIs(is_shifted_certificate(2, 3, HALF, 0, value_rows), same)

    def test_true_is_not_one(self):
        self.assert_certificate(((0, 1, 0, 0, 0),))
        self.assert_certificate(((1, 1, 1, 1, 0),))
        for at in range(5):
            changed = [0, 1, 0, 0, 0]
            changed[at] = bool(changed[at])
            self.assert_none((tuple(changed),), 0, 1, 0, 0)
            changed = [1, 1, 1, 1, 0]
            changed[at] = bool(changed[at])
            self.assert_none((tuple(changed),), 1, 1, 1, 1)

    def test_lists_are_no_tuples(self):
        self.assert_none(list(GOOD))
        for at in range(len(GOOD)):
            self.assert_none((*GOOD[:at], list(GOOD[at]), *GOOD[at + 1:]))

    def test_ratios_in_the_place_of_integers(self):
        self.assert_none(((Ratio(2), *GOOD[0][1:]), *GOOD[1:]))
        self.assert_none(((2, Ratio(3), *GOOD[0][2:]), *GOOD[1:]))

    def test_integers_and_whole_ratios_are_equal_numbers(self):
        changed = tuple(tuple(Ratio(one) if at > 1 and type(one) is int else one for at, one in enumerate(two))
                        for two in GOOD)
        for x, y in ((HALF, 0), (Ratio(2, 4), Ratio(0, 5))):
            for value in (GOOD, changed, (GOOD[0], *changed[1:]), (changed[0], *GOOD[1:])):
                self.assertIs(is_shifted_certificate(2, 3, x, y, value), True)


class RuleTests(Judging):
    def test_example(self):
        self.assert_certificate(GOOD)

    def test_first_row(self):
        for a, b, x, y in [(5, 3, HALF, 0), (2, 6, HALF, 0), (2, 3, 0, 0), (2, 3, Ratio(3, 2), 0), (2, 3, HALF, 1),
                           (2, 3, -HALF, 0), (3, 2, 0, HALF)]:
            self.assert_none(GOOD, a, b, x, y)
        self.assert_none(GOOD[1:])

    def test_last_row(self):
        for at in range(1, len(GOOD)):
            self.assert_none(GOOD[:at])
        self.assert_none((*GOOD[:-1], (2, 1, HALF, HALF, Ratio(1, 4))))
        self.assert_none(((0, 1, HALF, HALF, HALF),), 0, 1, HALF, HALF)
        self.assert_none(((0, 1, Ratio(1, 3), Ratio(1, 3), 0),), 0, 1, Ratio(1, 3), Ratio(1, 3))
        self.assert_certificate(((0, 1, Ratio(1, 3), Ratio(1, 3), Ratio(1, 36)),))
        # It does not have to have p = 0, nor shifts between 0 and 1.
        self.assert_certificate(((4, 1, Ratio(7, 3), Ratio(-7, 6), Ratio(1, 18)),))
        self.assert_certificate(((-1, 1, Ratio(1, 3), Ratio(1, 4), Ratio(5, 48)),))
        # The row is true, but q is not 1.
        self.assert_none((row(0, 3, 0, 0),), 0, 3, 0, 0)
        self.assert_none((row(1, 2, 0, 0),), 1, 2, 0, 0)

    def test_every_row_follows_from_the_one_in_front_of_it(self):
        for at in range(1, len(GOOD) - 1):
            self.assert_none(GOOD[:at] + GOOD[at + 1:])
        self.assert_none((GOOD[0], GOOD[-1]))
        self.assert_none(((5, 12, 0, 0, 0), (0, 1, 0, 0, 0)), 5, 12, 0, 0)

    def test_wrong_numbers(self):
        for at in range(len(GOOD)):
            for wrong in (GOOD[at][4] + HALF, -GOOD[at][4] - 1, Ratio(1, 7)):
                self.assert_none((*GOOD[:at], (*GOOD[at][:4], wrong), *GOOD[at + 1:]))

    def test_second_integers_of_at_least_one(self):
        for q in (0, -1, -4):
            self.assert_none(((0, 4, HALF, HALF, 0), (0, q, HALF, HALF, 0), (0, 1, HALF, HALF, 0)), 0, 4, HALF, HALF)
            self.assert_none((GOOD[0], (2, q, HALF, 0, Ratio(1, 9)), *GOOD[1:]))
            self.assert_none((*GOOD, (2, q, HALF, HALF, 0)))

    def test_shift(self):
        third, quarter = Fraction(1, 3), Fraction(1, 4)
        start = (2, 5, third, quarter)
        for m in (-3, 0, 1, 10 ** 700):
            for k, j in ((0, 0), (-1, 4), (10 ** 50, -10 ** 50)):
                other = (2 - 5 * m, 5, third + m * quarter + k, quarter + j)
                self.assert_certificate((row(*start), row(*other), *certificate(*start)))
        before = row(*start)
        for wrong in (
            (7, 5, third, quarter), (7, 5, third + quarter, quarter), (3, 5, third, quarter), (2, 10, third, quarter),
            (2, 5, third, quarter + third), (2, 5, third + quarter, quarter), (-3, 5, third - quarter, quarter),
        ):
            after = (*wrong[:2], ratio(wrong[2]), ratio(wrong[3]), before[4])
            self.assertFalse(plain_follows(before, after))
            self.assert_none((before, after, *certificate(*wrong)), *before[:4])
            # The same step with true numbers does not lead there either.
            self.assertIs(self.judged((before, *certificate(*wrong))), plain_follows(before, row(*wrong)))
            right = (*before[:4], row(*wrong)[4])
            self.assert_none((right, *certificate(*wrong)), *right[:4])

    def test_negate(self):
        start, other = (2, 5, Fraction(1, 3), Fraction(1, 4)), (-2, 5, Fraction(-1, 3), Fraction(1, 4))
        self.assert_certificate((row(*start), *certificate(*other)))
        self.assertNotEqual(row(*start)[4], 0)
        for wrong in ((-2, 5, Fraction(1, 3), Fraction(1, 4)), (-2, 5, Fraction(-1, 3), Fraction(5, 4)),
                      (-2, 5, Fraction(2, 3), Fraction(1, 4)), (2, 5, Fraction(-1, 3), Fraction(1, 4))):
            before = (*row(*start)[:4], -row(*wrong)[4])
            self.assert_none((before, *certificate(*wrong)), *before[:4])

    def test_turn(self):
        start, other = (2, 5, Fraction(1, 3), Fraction(1, 4)), (2, 5, Fraction(-1, 3), Fraction(-1, 4))
        self.assert_certificate((row(*start), *certificate(*other)))
        for wrong in ((2, 5, Fraction(-1, 3), Fraction(1, 4)), (2, 5, Fraction(1, 3), Fraction(-1, 4)),
                      (-2, 5, Fraction(-1, 3), Fraction(-1, 4)), (2, 5, Fraction(2, 3), Fraction(-1, 4))):
            before = (*row(*start)[:4], row(*wrong)[4])
            self.assertIs(self.judged((before, *certificate(*wrong))), plain_follows(before, row(*wrong)))

    def test_reduce(self):
        half = Fraction(1, 2)
        self.assert_certificate((row(4, 6, half, 0), *GOOD))
        self.assert_certificate((row(20, 30, half, 0), row(4, 6, half, 0), *GOOD))
        self.assert_certificate((row(0, 6, half, half), row(0, 1, half, half)))
        self.assert_certificate((GOOD[0], *GOOD))
        for p, q, u, v in ((4, 3, HALF, 0), (2, 6, HALF, 0), (-4, 6, HALF, 0), (4, 6, 0, 0), (4, 6, HALF, 1), (5, 6, HALF, 0)):
            self.assert_none(((p, q, u, v, GOOD[0][4]), *GOOD), p, q, u, v)
        self.assert_none((GOOD[0], row(4, 6, half, 0), *GOOD))

    def test_exchange(self):
        half = Fraction(1, 2)
        self.assert_certificate(through((2, 3, half, 0), (3, 2, 0, half), (2, 3, half, 0)) + GOOD[1:])
        self.assert_certificate(through((1, 1, half, 0), (1, 1, 0, half)))
        for u, v in ((1, half), (0, -half), (half, 0), (0, 0)):
            number = ratio(plain_shifted_exchange(2, 3, half, 0)) - row(3, 2, u, v)[4]
            self.assert_none(((2, 3, HALF, 0, number), *certificate(3, 2, u, v)))
        # Not for integers with a common factor, nor for those below 1, though the total may be right.
        for p, q in ((2, 4), (6, 3)):
            number = ratio(plain_shifted_exchange(p, q, half, 0)) - row(q, p, 0, half)[4]
            self.assert_none(((p, q, HALF, 0, number), *certificate(q, p, 0, half)), p, q, HALF, 0)
        self.assert_none(((-1, 1, HALF, 0, 0), (1, -1, 0, HALF, 0), (1, 1, 0, HALF, 0)), -1, 1, HALF, 0)
        self.assert_none(((0, 1, HALF, 0, 0), (1, 0, 0, HALF, 0), (1, 1, 0, HALF, 0)), 0, 1, HALF, 0)

    def test_each_step_as_the_rules_say(self):
        shifts = [Fraction(0), Fraction(1, 2), Fraction(-1, 2), Fraction(3, 2), Fraction(1)]
        source = random.Random(6)
        rows = [row(p, q, u, v) for p in range(-3, 5) for q in (1, 2, 4) for u in shifts for v in shifts]
        for before in source.sample(rows, 60):
            for after in source.sample(rows, 200):
                for number in {before[4].top: before[4], -before[4].top: -before[4]}.values():
                    start = (*before[:4], number)
                    value = (start, *shifted_certificate(*after[:4]))
                    self.assertIs(self.judged(value), plain_follows(start, after), (start, after))


class SizeTests(Judging):
    def test_two_thousand_rows(self):
        for many, expected in ((4, True), (700, True), (1999, True), (2000, True), (2001, False), (2500, False)):
            value = (GOOD[0],) * (many - 3) + GOOD[1:]
            self.assertEqual(len(value), many)
            self.assertIs(is_shifted_certificate(2, 3, HALF, 0, value), expected)
        self.assert_none((), 0, 1, 0, 0)

    def test_many_rows_of_sixty_digits(self):
        a, b = LONGEST
        rows = certificate(a, b, *LARGE_SHIFTS[:2])
        for many, expected in ((700, True), (2000, True), (2001, False)):
            self.assertIs(self.judged((rows[0],) * (many - len(rows)) + rows), expected)

    def test_eight_hundred_digits_in_integers(self):
        for p in (EIGHT_HUNDRED, -EIGHT_HUNDRED):
            self.assert_certificate(((0, 1, HALF, 0, 0), (p, 1, HALF, 0, 0)))
        for p in (EIGHT_HUNDRED + 1, -EIGHT_HUNDRED - 1, 10 ** 899):
            self.assert_none(((0, 1, HALF, 0, 0), (p, 1, HALF, 0, 0)), 0, 1, HALF, 0)

    def test_eight_hundred_digits_in_second_integers(self):
        for outer, digits, expected in ((9000, 800, True), (12000, 801, False)):
            up = chain_up_to((outer, *(1000,) * 264, outer))
            rows = [(p, q, 0, 0, ratio(Fraction(top, bottom))) for p, q, top, bottom in up]
            self.assertEqual((len(str(rows[-1][1])), rows[-1][4]), (digits, 0))
            value = (*rows, *rows[-2::-1])
            self.assertIs(is_shifted_certificate(0, 1, 0, 0, value), expected)

    def test_eight_hundred_digits_in_numbers(self):
        for extra, expected in ((EIGHT_HUNDRED, True), (-EIGHT_HUNDRED, True), (EIGHT_HUNDRED + 1, False)):
            # Shifts by integers, as an integer and as a numerator.
            self.assertIs(self.judged(((0, 1, 0, 0, 0), (0, 1, extra, 0, 0))), expected)
            self.assertIs(self.judged(((0, 1, 0, 0, 0), (0, 1, 0, extra, 0))), expected)
            self.assertIs(self.judged(((0, 1, 0, 0, 0), (0, 1, ratio(extra), 0, 0))), expected)
        top, bottom = ratio(EIGHT_HUNDRED), ratio(EIGHT_HUNDRED - 1)
        self.assert_certificate(((0, 1, 0, 0, 0), (0, 1, top, 0, 0)))
        self.assert_none(((0, 1, 0, 0, top.over(bottom)),), 0, 1, 0, 0)
        self.assert_none(((0, 1, 0, 0, Ratio(1).over(ratio(EIGHT_HUNDRED + 1))),), 0, 1, 0, 0)

    def test_eight_hundred_digits_in_numerators(self):
        for top, expected in ((10 ** 800 - 2, True), (2 - 10 ** 800, True), (10 ** 800 + 1, False)):
            u = Fraction(top, 3)
            value = ((0, 1, ratio(u % 1), HALF, 0), (0, 1, ratio(u), HALF, 0))
            self.assertIs(self.judged(value), expected)

    def test_eight_hundred_digits_in_denominators(self):
        # Found by trial: the last row alone has a longer integer, the denominator of its number.
        quotients = (500,) * 214 + (
            5999, 1, 36, 38, 1, 39, 36, 39, 38, 37, 3, 39, 39, 2, 1, 9, 4, 39, 39, 2, 1, 4, 1, 4, 1, 19, 1, 24, 1, 38, 3,
            39, 39, 38, 2, 39, 1, 39, 36, 38, 2, 39, 5, 14,
        )
        up = shifted_rows_up_to(quotients, Fraction(1, 10 ** 59 + 1), Fraction(2, 10 ** 59 + 3))
        self.assertEqual(len(str(up[-1][4].denominator)), 801)
        self.assertLess(abs(up[-1][4].numerator), 10 ** 800)
        rows = [(p, q, ratio(u), ratio(v), ratio(number)) for p, q, u, v, number in up]
        for many, expected in ((len(rows) - 1, True), (len(rows), False)):
            value = (*rows[:many], *rows[many - 2::-1])
            self.assertIs(self.judged(value), expected)

    def test_long_rows_come_without_delay(self):
        q = 10 ** 799 + 7
        u, v = ratio(q - 2).over(ratio(q)), ratio(q - 5).over(ratio(q + 2))
        two = ((q + 1, q, u, v, 0), (q, q + 1, v, u, 0))
        self.assert_none(((1, 1, 0, 0, 0), *(two * 500)), 1, 1, 0, 0)
        value = ((1, 1, 0, 0, 0), (10 ** 799, 1, 10 ** 799, 10 ** 799, 0)) * 1000
        self.assert_certificate(value)


if __name__ == "__main__":
    unittest.main()
