"""Chains of exchanges: those that the package makes, and what is judged to be one."""

import math
import unittest
from fractions import Fraction

from tests.plain import chain_up_to, exact, exchanged_sum, plain_exchange, plain_sum
from tests.samples import (
    LARGE_PAIRS, LONGEST, SIXTY, SIXTY_ONE, SMALL_PAIRS, Refusals, judged_values, neighbors, not_integers, random_pairs,
)
from toothchain.base.ladders import Ladder
from toothchain.base.ratios import Ratio
from toothchain.sums.chains import MAX_DIGITS, MAX_ROWS, Walk, chain_certificate, is_chain_certificate
from toothchain.sums.teeth import tooth_sum

GOOD = ((5, 12, -1, 72), (12, 5, 0, 1), (2, 5, 0, 3), (5, 2, 0, 1), (1, 2, 0, 1), (2, 1, 0, 1), (0, 1, 0, 1))
EIGHT_HUNDRED = 10 ** 800 - 1
PAIRS = [*SMALL_PAIRS, *LARGE_PAIRS, LONGEST, LONGEST[::-1], *random_pairs(8)]


def plain_follows(before, after):
    """Whether a rule leads from one row to the next, as [4.1] says it."""
    (p, q, *value), (u, v, *new_value) = before, after
    value, new_value = Fraction(*value), Fraction(*new_value)
    return (
        (u - p) % q == 0 and v == q and value == new_value
        or u == -p and v == q and value == -new_value
        or v == q and (u * p - 1) % q == 0 and value == new_value
        or q % v == 0 and p == q // v * u and value == new_value
        or u == q and v == p and p >= 1 and math.gcd(p, q) == 1 and value + new_value == plain_exchange(p, q)
    )


def row(p, q):
    """The true row of a pair."""
    value = exchanged_sum(p, q)
    return p, q, value.numerator, value.denominator


def chain_through(*pairs):
    return tuple(row(p, q) for p, q in pairs)


class Judging(unittest.TestCase, Refusals):
    def assert_chain(self, value):
        self.assertIs(is_chain_certificate(value[0][0], value[0][1], value), True)

    def assert_no_chain(self, value, a=5, b=12):
        self.assertIs(is_chain_certificate(a, b, value), False)


class MakingTests(Judging):
    def test_certificates(self):
        for a, b in PAIRS:
            chain = chain_certificate(a, b)
            self.assertIs(type(chain), tuple)
            self.assertEqual(chain[0][:2], (a, b))
            self.assertEqual((chain[-1][0], chain[-1][2]), (0, 0))
            self.assertTrue(all(type(one) is tuple and [*map(type, one)] == [int] * 4 for one in chain))
            self.assertTrue(all(plain_follows(one, other) for one, other in zip(chain, chain[1:])))
            self.assert_chain(chain)

    def test_rows_are_true(self):
        for a, b in SMALL_PAIRS:
            for p, q, top, bottom in chain_certificate(a, b):
                self.assertEqual(Fraction(top, bottom), plain_sum(p, q))

    def test_first_row_has_the_sum(self):
        for a, b in PAIRS:
            _, _, top, bottom = chain_certificate(a, b)[0]
            self.assertEqual(Fraction(top, bottom), exact(tooth_sum(a, b)))

    def test_at_most_seven_hundred_rows(self):
        for a, b in [LONGEST, LONGEST[::-1], (-LONGEST[0], LONGEST[1]), *random_pairs(9)]:
            self.assertLessEqual(len(chain_certificate(a, b)), 700)
        self.assertGreater(len(chain_certificate(*LONGEST)), 500)

    def test_long_ladders(self):
        for x, y in list(neighbors())[::7]:
            self.assert_chain(chain_certificate(x, y))
            self.assert_chain(chain_certificate(y, x))

    def test_one_row(self):
        for b in (1, 2, 12, SIXTY):
            self.assert_chain(chain_certificate(0, b))
            self.assertEqual(len(chain_certificate(0, b)), 1)

    def test_wrong_pairs(self):
        self.assert_pair_is_checked(chain_certificate)
        self.assert_no_number(SIXTY_ONE, chain_certificate, SIXTY_ONE, 1)
        self.assert_no_number(SIXTY_ONE, chain_certificate, 1, SIXTY_ONE)


class ArgumentTests(Judging):
    def test_limits(self):
        self.assertEqual((MAX_ROWS, MAX_DIGITS), (2000, 800))

    def test_wrong_pairs(self):
        for value in (GOOD, None, (), "chain"):
            self.assert_pair_is_checked(lambda a, b: is_chain_certificate(a, b, value))
        self.assert_no_number(SIXTY_ONE, is_chain_certificate, SIXTY_ONE, 12, GOOD)
        self.assert_no_number(SIXTY_ONE, is_chain_certificate, 5, SIXTY_ONE, GOOD)

    def test_every_value_is_judged(self):
        for value in judged_values():
            self.assert_no_chain(value)
            self.assert_no_chain(value, 0, 1)
            self.assert_no_chain((value,))
            self.assert_no_chain((value,), 0, 1)
            self.assert_no_chain(GOOD[:3] + (value,) + GOOD[4:])
            self.assert_no_chain((value, *GOOD[1:]))
            self.assert_no_chain((*GOOD[:-1], value))

    def test_rows_of_other_values(self):
        values = [one for one in not_integers() if type(one) is not int or abs(one) > EIGHT_HUNDRED]
        self.assertGreater(len(values), 35)
        for value in values:
            for at in range(len(GOOD)):
                for place in range(4):
                    changed = list(GOOD[at])
                    changed[place] = value
                    self.assert_no_chain((*GOOD[:at], tuple(changed), *GOOD[at + 1:]))

    def test_true_is_not_one(self):
        self.assert_chain(((0, 1, 0, 1),))
        for changed in ((False, 1, 0, 1), (0, True, 0, 1), (0, 1, False, 1), (0, 1, 0, True)):
            self.assert_no_chain((changed,), 0, 1)
            self.assert_no_chain((*GOOD[:-1], changed))

    def test_lists_are_no_tuples(self):
        self.assert_no_chain(list(GOOD))
        self.assert_no_chain([list(one) for one in GOOD])
        for at in range(len(GOOD)):
            self.assert_no_chain((*GOOD[:at], list(GOOD[at]), *GOOD[at + 1:]))

    def test_argument_stays_as_it_is(self):
        value = [list(one) for one in GOOD]
        self.assert_no_chain(value)
        self.assertEqual(value, [list(one) for one in GOOD])

    def test_walks_and_ladders_are_no_chains(self):
        for value in (Walk(5, 12), Ladder(5, 12), Ratio(1, 2), (Walk(0, 1),)):
            self.assert_no_chain(value)
            self.assert_no_chain(value, 0, 1)


class RuleTests(Judging):
    def test_example(self):
        self.assert_chain(GOOD)
        self.assert_no_chain(((2, 4, 0, 1), (1, 2, 0, 1), (0, 2, 0, 1)), 2, 4)

    def test_first_row_has_the_pair(self):
        for a, b in [(5, 13), (17, 12), (-5, 12), (10, 24), (12, 5), (0, 1), (0, 12)]:
            self.assert_no_chain(GOOD, a, b)
        self.assert_no_chain(GOOD[1:])

    def test_last_row_is_zero(self):
        for at in range(1, len(GOOD)):
            self.assert_no_chain(GOOD[:at])
        self.assert_no_chain((*GOOD[:-1], (0, 1, 1, 5)))
        self.assert_no_chain(((0, 3, 1, 18),), 0, 3)
        self.assert_no_chain(((3, 3, 0, 1),), 3, 3)
        self.assert_chain(((0, 3, 0, 18),))

    def test_every_row_follows_from_the_one_in_front_of_it(self):
        for at in range(1, len(GOOD) - 1):
            self.assert_no_chain(GOOD[:at] + GOOD[at + 1:])
        self.assert_no_chain((GOOD[0], GOOD[-1]))
        self.assert_no_chain(((5, 12, 0, 1), (0, 1, 0, 1)))

    def test_wrong_values(self):
        for at in range(len(GOOD)):
            p, q, top, bottom = GOOD[at]
            for value in ((top + 1, bottom), (top - 1, bottom), (top, -bottom), (top, 0), (-top - 1, bottom)):
                self.assert_no_chain((*GOOD[:at], (p, q, *value), *GOOD[at + 1:]))

    def test_second_integers_and_denominators_of_at_least_one(self):
        for wrong in ((0, -1, 0, 1), (0, -4, 0, 1), (0, 0, 0, 1), (0, 1, 0, -1), (0, 1, 0, 0), (0, 4, 0, 0)):
            self.assert_no_chain(((0, 4, 0, 1), wrong), 0, 4)
            self.assert_no_chain(((0, 4, 0, 1), wrong, (0, 1, 0, 1)), 0, 4)
            self.assert_no_chain((*GOOD, wrong))
            self.assert_no_chain((GOOD[0], wrong, *GOOD[1:]))
        self.assert_no_chain(((2, 4, 0, 1), (-1, -2, 0, 1), (1, 2, 0, 1), *chain_certificate(1, 2)), 2, 4)

    def test_denominators_of_any_kind(self):
        for factor in (2, 5, 10 ** 700):
            self.assert_chain(tuple((p, q, top * factor, bottom * factor) for p, q, top, bottom in GOOD))

    def test_shift(self):
        for p in (-4, 1, 6, 5 * 10 ** 700 + 1):
            self.assert_chain(chain_through((1, 5), (p, 5), (1, 5), (5, 1), (0, 1)))
        self.assert_no_chain(((1, 5, 1, 5), (2, 5, 1, 5), *chain_certificate(1, 5)), 1, 5)
        self.assert_no_chain(((1, 5, 1, 5), (6, 10, 1, 5), *chain_certificate(1, 5)), 1, 5)
        self.assert_no_chain(((0, 5, 1, 5), (5, 5, 0, 1), (0, 5, 0, 1)), 0, 5)

    def test_negate(self):
        self.assert_chain(chain_through((1, 5), (-1, 5), (1, 5), (5, 1), (0, 1)))
        self.assert_no_chain(((1, 5, 1, 5), (-1, 5, 1, 5), *chain_certificate(1, 5)), 1, 5)
        self.assert_no_chain((row(1, 5), (-1, 10, -1, 5), *chain_certificate(1, 5)), 1, 5)
        # At p = 0 a pair is its own opposite, but not every value is.
        self.assert_chain(((0, 5, 0, 1), (0, 5, 0, 7)))
        self.assert_no_chain(((0, 5, 1, 5), (0, 5, 0, 1)), 0, 5)

    def test_invert(self):
        self.assert_chain((row(3, 7), row(5, 7), *chain_certificate(-2, 7)[:0], *chain_certificate(5, 7)))
        self.assert_chain((row(3, 7), row(-2, 7), *chain_certificate(-2, 7)))
        self.assert_chain((row(3, 7), row(5 + 7 * 10 ** 90, 7), *chain_certificate(5, 7)))
        self.assert_no_chain(((3, 7, *row(4, 7)[2:]), row(4, 7), *chain_certificate(4, 7)), 3, 7)
        # The values differ only by their signs, and no rule turns 2 into 3 with opposite values.
        self.assert_no_chain((row(2, 7), row(3, 7), *chain_certificate(3, 7)), 2, 7)

    def test_reduce(self):
        self.assert_chain((row(10, 24), *GOOD))
        self.assert_chain((row(60, 144), row(10, 24), *GOOD))
        self.assert_chain((row(-6, 9), *chain_certificate(-2, 3)))
        self.assert_chain((row(0, 9), row(0, 3)))
        # A pair may also be reduced by 1, which leaves it as it is.
        self.assert_chain((GOOD[0], *GOOD))
        self.assert_no_chain((GOOD[0], row(10, 24), *GOOD))
        self.assert_no_chain((row(-10, 24), *GOOD), -10, 24)
        self.assert_no_chain(((10, 12, *GOOD[0][2:]), *GOOD), 10, 12)
        self.assert_no_chain(((11, 24, *GOOD[0][2:]), *GOOD), 11, 24)

    def test_exchange(self):
        self.assert_chain(chain_through((5, 12), (12, 5), (5, 12), (12, 5), (2, 5), (5, 2), (1, 2), (2, 1), (0, 1)))
        self.assert_chain(chain_through((1, 1), (1, 1), (0, 1)))
        # Not for integers below 1, nor for those with a common factor, though the total may be right.
        value = Fraction(plain_exchange(2, 4))
        wrong = ((2, 4, value.numerator, value.denominator), (4, 2, 0, 1), (0, 2, 0, 1))
        self.assert_no_chain(wrong, 2, 4)
        self.assert_no_chain((row(3, 1), (1, 3, 1, 17), *chain_certificate(1, 3)), 3, 1)
        value = plain_exchange(-1, 3)
        self.assert_no_chain(((-1, 3, value.numerator, value.denominator), (3, -1, 0, 1), (0, 1, 0, 1)), -1, 3)

    def test_each_step_as_the_rules_say(self):
        rows = [row(p, q) for q in range(1, 8) for p in range(-8, 16)]
        for p, q, top, bottom in rows:
            for other in rows:
                for before in ((p, q, top, bottom), (p, q, -top, bottom)):
                    value = (before, other, *chain_certificate(*other[:2]))
                    self.assertIs(is_chain_certificate(p, q, value), plain_follows(before, other), (before, other))


class SizeTests(Judging):
    def test_one_row(self):
        self.assert_chain(((0, 1, 0, 1),))
        self.assert_chain(((0, SIXTY, 0, 5),))
        self.assert_no_chain((), 0, 1)

    def test_two_thousand_rows(self):
        end = GOOD[1:]
        for many, expected in ((700, True), (1999, True), (2000, True), (2001, False), (2500, False)):
            value = (GOOD[0],) * (many - len(end)) + end
            self.assertEqual(len(value), many)
            self.assertIs(is_chain_certificate(5, 12, value), expected)
            self.assertIs(is_chain_certificate(0, 1, ((0, 1, 0, 1),) * many), expected)

    def test_eight_hundred_digits(self):
        for top in (EIGHT_HUNDRED, -EIGHT_HUNDRED):
            self.assert_chain(((0, 1, 0, 1), (top, 1, 0, 1), (0, 1, 0, 1)))
        for top in (EIGHT_HUNDRED + 1, -EIGHT_HUNDRED - 1, 10 ** 899):
            self.assert_no_chain(((0, 1, 0, 1), (top, 1, 0, 1), (0, 1, 0, 1)), 0, 1)
        self.assert_chain(((0, 1, 0, EIGHT_HUNDRED),))
        self.assert_no_chain(((0, 1, 0, EIGHT_HUNDRED + 1),), 0, 1)
        self.assert_chain(((1, 2, 0, 1), (EIGHT_HUNDRED, 2, 0, 1), *chain_certificate(1, 2)))
        self.assert_no_chain(((1, 2, 0, 1), (10 ** 800 + 1, 2, 0, 1), *chain_certificate(1, 2)), 1, 2)

    def test_eight_hundred_digits_in_second_integers(self):
        for outer, digits, expected in ((9000, 800, True), (12000, 801, False)):
            rows = chain_up_to((outer, *(1000,) * 264, outer))
            # The sum of the highest pair is 0, because its quotients are the same from both ends.
            self.assertEqual((len(str(rows[-1][1])), rows[-1][2:]), (digits, (0, 1)))
            value = (*rows, *rows[-2::-1])
            self.assertTrue(all(len(str(abs(one))) <= 800 for two in rows[:-2] for one in two))
            self.assertEqual((value[0][:2], len(value)), ((0, 1), 1065))
            self.assertIs(is_chain_certificate(0, 1, value), expected)

    def test_eight_hundred_digits_in_values(self):
        for zeros, expected in ((798, True), (799, False)):
            value = tuple((p, q, top * 10 ** zeros, bottom * 10 ** zeros) for p, q, top, bottom in GOOD)
            self.assertIs(is_chain_certificate(5, 12, value), expected)

    def test_long_integers_come_without_delay(self):
        p = 10 ** 799 + 1
        long = ((1, 1, 0, 1), (p, 1, 0, 1))
        greatest = Fraction((p - 1) * (p - 2), 12 * p)
        self.assert_no_chain((*long, (1, p, greatest.numerator, greatest.denominator), (0, 1, 0, 1)), 1, 1)
        self.assert_chain(long * 999 + ((1, 1, 0, 1), (0, 1, 0, 1)))


if __name__ == "__main__":
    unittest.main()
