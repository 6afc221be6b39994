"""Higher chains: those that the package makes, and what is judged to be one."""

import math
import unittest
from fractions import Fraction

from tests.plain import higher_exchange_value, higher_value
from tests.samples import (
    LARGE_PAIRS, LONGEST, SIXTY, SMALL_PAIRS, Refusals, judged_values, not_integers, random_pairs,
)
from toothchain.base.ladders import Ladder
from toothchain.base.ratios import Ratio
from toothchain.sums.chains import Walk, chain_certificate
from toothchain.sums.higher import ORDERS, higher_certificate, is_higher_certificate

GOOD = ((1, 3, -1, 81), (3, 1, 0, 1), (0, 1, 0, 1))
EIGHT_HUNDRED = 10 ** 800 - 1
PAIRS = [*SMALL_PAIRS, *LARGE_PAIRS, LONGEST, LONGEST[::-1], *random_pairs(71, 2)]


def plain_follows(order, before, after):
    """Whether a rule leads from one row to the next, as [4.1] and the document's section say it."""
    (p, q, *value), (u, v, *new_value) = before, after
    value, new_value = Fraction(*value), Fraction(*new_value)
    if (u - p) % q == 0 and v == q and value == new_value or u == -p and v == q and value == -new_value:
        return True
    if q % v == 0 and p == q // v * u and value == new_value:
        return True
    if not (u == q and v == p and p >= 1 and math.gcd(p, q) == 1):
        return False
    both = p * q ** order * value + q * p ** order * new_value
    return (order + 1) * both == higher_exchange_value(order, p, q)


def row(order, p, q):
    """The true row of a pair."""
    value = higher_value(order, p, q)
    return p, q, value.numerator, value.denominator


def chain_through(order, *pairs):
    return tuple(row(order, p, q) for p, q in pairs)


class Judging(unittest.TestCase, Refusals):
    def assert_chain(self, order, value):
        self.assertIs(is_higher_certificate(order, value[0][0], value[0][1], value), True)

    def assert_no_chain(self, value, order=3, a=1, b=3):
        self.assertIs(is_higher_certificate(order, a, b, value), False)


class MakingTests(Judging):
    def test_certificates(self):
        for order in ORDERS:
            for a, b in PAIRS:
                chain = higher_certificate(order, a, b)
                self.assertIs(type(chain), tuple)
                self.assertTrue(all(type(one) is tuple and [*map(type, one)] == [int] * 4 for one in chain))
                self.assertEqual((chain[0][:2], chain[-1][0], chain[-1][2]), ((a, b), 0, 0))
                self.assertLessEqual(len(chain), 2000)
                self.assertLess(max(abs(one) for row_ in chain for one in row_), 10 ** 800)
                self.assertEqual(Fraction(*chain[0][2:]), higher_value(order, a, b))
                self.assert_chain(order, chain)

    def test_each_row_follows_and_is_true(self):
        for order in ORDERS:
            for a, b in [*SMALL_PAIRS, *LARGE_PAIRS[:6]]:
                chain = higher_certificate(order, a, b)
                self.assertTrue(all(plain_follows(order, one, other) for one, other in zip(chain, chain[1:])))
                self.assertTrue(all(Fraction(top, bottom) == higher_value(order, p, q) for p, q, top, bottom in chain))

    def test_order_one(self):
        for a, b in SMALL_PAIRS:
            self.assert_chain(1, chain_certificate(a, b))
            self.assertEqual(higher_certificate(1, a, b)[0], chain_certificate(a, b)[0])

    def test_one_row(self):
        for order in ORDERS:
            for b in (1, 2, SIXTY):
                self.assertEqual(len(higher_certificate(order, 0, 1)), 1)
                self.assert_chain(order, higher_certificate(order, 0, b))


class ArgumentTests(Judging):
    def test_every_value_is_judged(self):
        for value in judged_values():
            for order in (1, 3, 9):
                self.assert_no_chain(value, order)
                self.assert_no_chain(value, order, 0, 1)
                self.assert_no_chain((value,), order, 0, 1)
                self.assert_no_chain((GOOD[0], value, GOOD[2]), order)
                self.assert_no_chain((value, *GOOD[1:]), order)
                self.assert_no_chain((*GOOD[:-1], value), order)

    def test_rows_of_other_values(self):
        for value in [one for one in not_integers() if type(one) is not int or abs(one) > EIGHT_HUNDRED]:
            for at in range(len(GOOD)):
                for place in range(4):
                    changed = list(GOOD[at])
                    changed[place] = value
                    self.assert_no_chain((*GOOD[:at], tuple(changed), *GOOD[at + 1:]))

    def test_true_is_not_one(self):
        self.assert_chain(3, GOOD)
        for changed in ((False, 1, 0, 1), (0, True, 0, 1), (0, 1, False, 1), (0, 1, 0, True)):
            self.assert_no_chain((changed,), 3, 0, 1)
            self.assert_no_chain((*GOOD[:-1], changed))
        self.assert_no_chain(((True, 3, -1, 81), *GOOD[1:]))

    def test_lists_and_objects_are_no_chains(self):
        self.assert_no_chain(list(GOOD))
        for at in range(len(GOOD)):
            self.assert_no_chain((*GOOD[:at], list(GOOD[at]), *GOOD[at + 1:]))
        for value in (Walk(1, 3), Ladder(1, 3), Ratio(1), (Walk(0, 1),)):
            self.assert_no_chain(value)


class RuleTests(Judging):
    def test_other_orders(self):
        for order in ORDERS:
            self.assertIs(is_higher_certificate(order, 1, 3, GOOD), order == 3)
            for other in ORDERS:
                chain = higher_certificate(order, 2, 5)
                self.assertIs(is_higher_certificate(other, 2, 5, chain), order == other)

    def test_first_and_last_rows(self):
        for a, b in [(1, 4), (4, 3), (-1, 3), (2, 6), (3, 1), (0, 1)]:
            self.assert_no_chain(GOOD, 3, a, b)
        for at in range(1, len(GOOD)):
            self.assert_no_chain(GOOD[:at])
            self.assert_no_chain(GOOD[at:])
        self.assert_no_chain((*GOOD[:-1], (0, 1, 1, 5)))
        self.assert_no_chain(((0, 3, 1, 18),), 3, 0, 3)
        self.assert_no_chain(((3, 3, 0, 1),), 3, 3, 3)
        self.assert_no_chain((GOOD[0], GOOD[-1]))

    def test_wrong_values(self):
        for order in ORDERS:
            chain = higher_certificate(order, 5, 12)
            for at in range(len(chain)):
                p, q, top, bottom = chain[at]
                for value in ((top + 1, bottom), (top - 1, bottom), (top, -bottom), (top, 0), (-top - 1, bottom)):
                    self.assert_no_chain((*chain[:at], (p, q, *value), *chain[at + 1:]), order, 5, 12)
            for factor in (2, 10 ** 700):
                value = tuple((p, q, top * factor, bottom * factor) for p, q, top, bottom in chain)
                self.assert_chain(order, value)

    def test_second_integers_and_denominators_of_at_least_one(self):
        for wrong in ((0, -1, 0, 1), (0, 0, 0, 1), (0, 1, 0, -1), (0, 1, 0, 0)):
            self.assert_no_chain((*GOOD, wrong))
            self.assert_no_chain(((0, 4, 0, 1), wrong), 3, 0, 4)

    def test_rules(self):
        for order in ORDERS:
            end = ((1, 5), (5, 1), (0, 1))
            for pairs in [
                ((1, 5), (6, 5), *end), ((1, 5), (-4, 5), (1, 5), (5, 1), (0, 1)), ((1, 5), (-1, 5), *end),
                ((3, 15), *end), ((-2, 10), (-1, 5), *end), ((6, 30), (2, 10), *end), ((1, 5), *end),
                ((1, 5), (5, 1), (1, 5), (5, 1), (0, 1)), ((1, 5), (5 * 10 ** 700 + 1, 5), *end),
            ]:
                self.assert_chain(order, chain_through(order, *pairs))
            for before in (row(order, 1, 10), row(order, 2, 5), row(order, 3, 10)):
                self.assert_no_chain((before, *chain_through(order, *end)), order, *before[:2])

    def test_there_is_no_inverting(self):
        for order in ORDERS:
            # Both rows are true, and for order 1 the values are equal, but no rule leads there.
            value = (row(order, 3, 7), *higher_certificate(order, 5, 7))
            self.assert_no_chain(value, order, 3, 7)

    def test_exchanges_that_are_none(self):
        for order in ORDERS:
            for p, q in [(2, 4), (-1, 3), (0, 1), (3, 3)]:
                for top in (0, 1, -1):
                    both = higher_exchange_value(order, p, q) / (order + 1)
                    value = (both - q * p ** order * Fraction(top, 5)) / (p * q ** order) if p else Fraction(0)
                    rows = ((p, q, value.numerator, value.denominator), (q, p, top, 5))
                    self.assert_no_chain((*rows, (0, abs(p) or 1, 0, 1)), order, p, q)

    def test_each_step_as_the_rules_say(self):
        for order in ORDERS:
            rows = [row(order, p, q) for q in range(1, 5) for p in range(-5, 8)]
            for p, q, top, bottom in rows:
                for other in rows:
                    for before in ((p, q, top, bottom), (p, q, -top, bottom)):
                        value = (before, other, *higher_certificate(order, *other[:2]))
                        expected = plain_follows(order, before, other)
                        self.assertIs(is_higher_certificate(order, p, q, value), expected, (order, before, other))


class SizeTests(Judging):
    def test_two_thousand_rows(self):
        for many, expected in ((1999, True), (2000, True), (2001, False)):
            value = (GOOD[0],) * (many - 2) + GOOD[1:]
            self.assertIs(is_higher_certificate(3, 1, 3, value), expected)
            self.assertIs(is_higher_certificate(9, 0, 1, ((0, 1, 0, 1),) * many), expected)
        self.assert_no_chain((), 3, 0, 1)

    def test_eight_hundred_digits(self):
        for order in ORDERS:
            for top in (EIGHT_HUNDRED, -EIGHT_HUNDRED):
                self.assert_chain(order, ((0, 1, 0, 1), (top, 1, 0, 1), (0, 1, 0, 1)))
            for top in (EIGHT_HUNDRED + 1, -EIGHT_HUNDRED - 1, 10 ** 899):
                self.assert_no_chain(((0, 1, 0, 1), (top, 1, 0, 1), (0, 1, 0, 1)), order, 0, 1)
            self.assert_chain(order, ((0, 1, 0, EIGHT_HUNDRED),))
            self.assert_no_chain(((0, 1, 0, EIGHT_HUNDRED + 1),), order, 0, 1)
        for zeros, expected in ((798, True), (799, False)):
            value = tuple((p, q, top * 10 ** zeros, bottom * 10 ** zeros) for p, q, top, bottom in GOOD)
            self.assertIs(is_higher_certificate(3, 1, 3, value), expected)

    def test_eight_hundred_digits_in_second_integers(self):
        for q, expected in ((EIGHT_HUNDRED, True), (EIGHT_HUNDRED + 1, False)):
            # At 0 a pair is reduced to each divisor.
            self.assertIs(is_higher_certificate(9, 0, 5, ((0, 5, 0, 1), (0, 5, 0, 1), (0, q, 0, 1))), False)
            self.assertIs(is_higher_certificate(9, 0, 1, ((0, 1, 0, 1), (q, 1, 0, 1), (0, 1, 0, q))), expected)

    def test_long_exchanges(self):
        # The sums of 1/q are ones of powers, so they are known for each q.
        for order, digits in ((1, 300), (3, 150), (9, 70)):
            q = 10 ** digits + 7
            value = tuple(row(order, *pair) for pair in [(1, 1), (1 + q, 1), (1, 1), (q, 1), (1, q), (q, 1), (0, 1)])
            self.assert_chain(order, value)
            wrong = list(value)
            p, q, top, bottom = wrong[4]
            wrong[4] = (p, q, top + 1, bottom)
            self.assert_no_chain(tuple(wrong), order, 1, 1)


if __name__ == "__main__":
    unittest.main()
