"""Ladders and what comes of them, against direct searches and the fractions of Python's library."""

import math
import random
import unittest
from fractions import Fraction
from unittest import mock

from tests.samples import SIXTY, SIXTY_ONE, Refusals, long_integers, neighbors, not_integers, plain_wrong_values
from toothchain.base import ladders
from toothchain.base.ladders import Ladder, are_coprime, common_factor, inverse_of, pair_from
from toothchain.base.ratios import Ratio
from toothchain.errors import InvalidNumber, InvalidOperation

SMALL = [(a, b) for a in range(-25, 40) for b in range(1, 25)]
LARGE = [
    (SIXTY, 1), (-SIXTY, 1), (0, SIXTY), (1, SIXTY), (-1, SIXTY), (SIXTY, SIXTY), (SIXTY, SIXTY - 1),
    (10 ** 59 + 7, 3 ** 125), (-(10 ** 59) - 7, 2 ** 199), (6 ** 70, 15 ** 50),
]


def fibonacci_pair():
    """The pair of at most sixty digits with the longest ladder."""
    one, other = 1, 1
    while one + other <= SIXTY:
        one, other = other, one + other
    return one, other


def random_pairs():
    source = random.Random(12)
    for digits in (3, 20, 60):
        for _ in range(15):
            yield source.randrange(-(10 ** digits) + 1, 10 ** digits), source.randrange(1, 10 ** digits)


PAIRS = [*SMALL, *LARGE, fibonacci_pair(), fibonacci_pair()[::-1], *random_pairs()]
FAILING_NUMBERS = [0, -1, -SIXTY]


def value_of(quotients):
    value = Fraction(quotients[-1])
    for quotient in quotients[-2::-1]:
        value = quotient + 1 / value
    return value


class StepTests(unittest.TestCase):
    def test_pair_is_kept(self):
        for a, b in PAIRS:
            self.assertEqual((Ladder(a, b).a, Ladder(a, b).b), (a, b))

    def test_quotients_and_remainders_follow_the_division(self):
        for a, b in PAIRS:
            ladder = Ladder(a, b)
            self.assertEqual(len(ladder.remainders), len(ladder.quotients))
            self.assertEqual(ladder.remainders[0], b)
            chain = (a, *ladder.remainders, 0)
            for at, quotient in enumerate(ladder.quotients):
                self.assertEqual(chain[at], quotient * chain[at + 1] + chain[at + 2])
                self.assertTrue(0 <= chain[at + 2] < chain[at + 1])

    def test_kinds_of_values(self):
        for a, b in [(17, 12), (-7, 3), (0, 4), (5, 1)]:
            ladder = Ladder(a, b)
            for value in (ladder.quotients, ladder.remainders, ladder.convergents, *ladder.convergents):
                self.assertIs(type(value), tuple)
            for value in (ladder.a, ladder.b, ladder.common, ladder.alternating, *ladder.convergents[0]):
                self.assertIs(type(value), int)

    def test_one_quotient(self):
        for a, b, quotient in [(0, 1, 0), (0, 4, 0), (5, 1, 5), (-5, 1, -5), (12, 4, 3), (-12, 4, -3), (SIXTY, 1, SIXTY)]:
            ladder = Ladder(a, b)
            self.assertEqual(ladder.quotients, (quotient,))
            self.assertEqual(ladder.remainders, (b,))
            self.assertEqual(ladder.common, b)
            self.assertEqual(ladder.convergents, ((quotient, 1),))
            self.assertEqual(ladder.alternating, 0)
            self.assertEqual(ladder.coprime_inverse, 0 if b == 1 else None)

    def test_common(self):
        for a, b in PAIRS:
            self.assertEqual(Ladder(a, b).common, math.gcd(a, b))

    def test_convergents(self):
        for a, b in PAIRS:
            ladder = Ladder(a, b)
            self.assertEqual(len(ladder.convergents), len(ladder.quotients))
            for at in range(len(ladder.quotients)):
                value = value_of(ladder.quotients[:at + 1])
                self.assertEqual(ladder.convergents[at], (value.numerator, value.denominator))

    def test_alternating(self):
        for a, b in PAIRS:
            ladder = Ladder(a, b)
            expected = sum(-quotient * (-1) ** at for at, quotient in enumerate(ladder.quotients) if at)
            self.assertEqual(ladder.alternating, expected)

    def test_coprime_inverse(self):
        for a, b in PAIRS:
            inverse = Ladder(a, b).coprime_inverse
            if math.gcd(a, b) == 1:
                self.assertEqual(inverse, pow(a, -1, b))
                self.assertIs(type(inverse), int)
            else:
                self.assertIsNone(inverse)

    def test_longest_ladder(self):
        ladder = Ladder(*fibonacci_pair())
        self.assertEqual(ladder.quotients, (0,) + (1,) * (len(ladder) - 2) + (2,))
        self.assertGreater(len(ladder), 280)


class ManyQuotientsTests(unittest.TestCase):
    """Ladders of the neighbors in 1, 2, 3, 5, 8, .. up to sixty digits, both ways round."""

    def test_there_are_many(self):
        self.assertEqual(len(list(neighbors())), 286)
        self.assertGreaterEqual(list(neighbors())[-1][1], 10 ** 59)

    def test_smaller_one_first(self):
        for many, (x, y) in enumerate(neighbors()):
            quotients = (0, *(1,) * many, 2)
            self.assertEqual(Ladder(x, y).quotients, quotients)
            self.assertEqual(tuple(Ladder(x, y)), quotients)
            self.assertEqual(len(Ladder(x, y)), many + 2)

    def test_greater_one_first(self):
        for many, (x, y) in enumerate(neighbors()):
            ladder = Ladder(y, x)
            self.assertEqual(len(ladder), many + 1)
            self.assertEqual(ladder.quotients, (*(1,) * many, 2))

    def test_remainders_and_common_factor(self):
        row = [1]
        for x, y in neighbors():
            row.append(y)
            for ladder in (Ladder(x, y), Ladder(y, x)):
                self.assertEqual((ladder.common, ladder.coprime_inverse), (1, pow(ladder.a, -1, ladder.b)))
            self.assertEqual(Ladder(x, y).remainders, tuple(row[::-1]))
            self.assertEqual(Ladder(y, x).remainders, tuple(row[-2::-1]))

    def test_convergents(self):
        for x, y in neighbors():
            convergents = Ladder(x, y).convergents
            self.assertEqual((convergents[0], convergents[-1]), ((0, 1), (x, y)))
            for at in range(len(convergents) - 1):
                (p, q), (u, v) = convergents[at], convergents[at + 1]
                self.assertEqual(p * v - q * u, 1 if at % 2 else -1)
            self.assertEqual(Ladder(y, x).convergents, tuple((q, p) for p, q in convergents[1:]))

    def test_convergents_are_worked_out_for_those_who_ask_only(self):
        with mock.patch.object(ladders, "_convergents_of") as convergents_of:
            for x, y in neighbors():
                ladder = Ladder(y, x)
                self.assertEqual((ladder.a, ladder.b, ladder.common, ladder[0], len(ladder)), (
                    y, x, ladder.remainders[-1], ladder.quotients[0], len(list(ladder))))
            convergents_of.assert_not_called()


class LawTests(unittest.TestCase):
    """The statements of [2.1]."""

    def test_last_convergent(self):
        for a, b in PAIRS:
            self.assertEqual(Fraction(*Ladder(a, b).convergents[-1]), Fraction(a, b))

    def test_neighboring_convergents(self):
        for a, b in PAIRS:
            convergents = Ladder(a, b).convergents
            for at in range(len(convergents) - 1):
                (p, q), (u, v) = convergents[at], convergents[at + 1]
                self.assertEqual(p * v - q * u, 1 if at % 2 else -1)

    def test_shifting_changes_only_the_first_quotient(self):
        for a, b in PAIRS:
            ladder = Ladder(a, b)
            for times in (0, 1, -1, 7, SIXTY, -SIXTY):
                shifted = ladder.shifted(times)
                self.assertIs(type(shifted), Ladder)
                self.assertEqual((shifted.a, shifted.b), (a + times * b, b))
                self.assertEqual(shifted.quotients, (ladder[0] + times, *ladder.quotients[1:]))
                self.assertEqual(shifted.remainders, ladder.remainders)
                self.assertEqual(shifted.coprime_inverse, ladder.coprime_inverse)

    def test_exchanging_puts_a_zero_in_front(self):
        for a, b in PAIRS:
            if a >= 1:
                exchanged = Ladder(a, b).exchanged()
                self.assertIs(type(exchanged), Ladder)
                self.assertEqual((exchanged.a, exchanged.b), (b, a))
                if a > b:
                    self.assertEqual(exchanged.quotients, (0, *Ladder(a, b).quotients))
                if a < b:
                    self.assertEqual((0, *exchanged.quotients), Ladder(a, b).quotients)


class LongLadderTests(unittest.TestCase):
    """Shifts and exchanges lead to integers of more than sixty digits."""

    def long_ladder(self, rounds):
        ladder, a, b = Ladder(5, 12), 5, 12
        for _ in range(rounds):
            ladder, a = ladder.shifted(SIXTY), a + SIXTY * b
            ladder, a, b = ladder.exchanged(), b, a
        return ladder, a, b

    def test_values(self):
        ladder, a, b = self.long_ladder(6)
        self.assertGreater(b, 10 ** 300)
        self.assertEqual((ladder.a, ladder.b, ladder.common), (a, b, 1))
        self.assertEqual(ladder.coprime_inverse, pow(a, -1, b))
        self.assertEqual(ladder.convergents[-1], (a, b))
        self.assertEqual(ladder.shifted(1).a, a + b)
        self.assertEqual(ladder, self.long_ladder(6)[0])
        self.assertNotEqual(ladder, ladder.shifted(1))
        self.assertEqual(str(ladder), f"{a}/{b}: " + " ".join(str(one) for one in ladder.quotients))

    def test_longer_than_python_writes(self):
        ladder, a, b = self.long_ladder(80)
        first, words = str(ladder).split(": ")
        above, below = first.split("/")
        self.assertGreater(len(below), 4700)
        self.assertEqual(self.number(above), a)
        self.assertEqual(self.number(below), b)
        self.assertEqual(words.split(" "), [str(one) for one in ladder.quotients])

    def number(self, text):
        value = 0
        for digit in text:
            value = 10 * value + int(digit)
        return value


class AccessTests(unittest.TestCase, Refusals):
    def test_items(self):
        for a, b in [(17, 12), (-7, 3), (0, 1), fibonacci_pair()]:
            ladder = Ladder(a, b)
            self.assertEqual([ladder[at] for at in range(len(ladder))], list(ladder.quotients))

    def test_wrong_items(self):
        ladder = Ladder(17, 12)
        for at in [-1, 4, 5, -4, SIXTY, -SIXTY, *not_integers()]:
            self.assert_no_number(at, lambda: ladder[at])
        for at in (1, -1):
            self.assert_no_number(at, lambda: Ladder(0, 1)[at])

    def test_iterating_and_length(self):
        for a, b in PAIRS:
            ladder = Ladder(a, b)
            self.assertEqual(tuple(ladder), ladder.quotients)
            self.assertEqual(tuple(ladder), tuple(ladder))
            self.assertEqual(len(ladder), len(ladder.quotients))

    def test_equality(self):
        for a, b in [(17, 12), (-7, 3), (0, 1), (6, 4)]:
            self.assertIs(Ladder(a, b) == Ladder(a, b), True)
            self.assertIs(Ladder(a, b) != Ladder(a, b), False)
            for other in (Ladder(a + b, b), Ladder(a, b + 1), Ladder(2 * a, 2 * b), Ladder(b, 99)):
                self.assertIs(Ladder(a, b) == other, False)
                self.assertIs(Ladder(a, b) != other, True)
        self.assertIs(Ladder(1, 2).shifted(3) == Ladder(7, 2), True)
        self.assertIs(Ladder(7, 2).exchanged() == Ladder(2, 7), True)

    def test_equal_to_nothing_else(self):
        ladder = Ladder(17, 13)
        values = [one for one in plain_wrong_values() if not isinstance(one, Ladder)] + long_integers()
        for value in [*values, 17, 0, 1, Ratio(17, 13), (17, 13), ladder.quotients, InvalidNumber(1), Ladder]:
            self.assertIs(ladder == value, False)
            self.assertIs(value == ladder, False)
            self.assertIs(ladder != value, True)
            self.assertIs(value != ladder, True)

    def test_text(self):
        self.assertEqual(str(Ladder(17, 12)), "17/12: 1 2 2 2")
        self.assertEqual(str(Ladder(-7, 3)), "-7/3: -3 1 2")
        self.assertEqual(str(Ladder(6, 4)), "6/4: 1 2")
        self.assertEqual(str(Ladder(0, 1)), "0/1: 0")
        self.assertEqual(str(Ladder(SIXTY, 1)), f"{SIXTY}/1: {SIXTY}")
        self.assertEqual(str(Ladder(0, 1).shifted(SIXTY).shifted(1)), f"{SIXTY_ONE}/1: {SIXTY_ONE}")

    def test_never_change(self):
        ladder = Ladder(17, 12)
        for name in ("a", "b", "quotients", "remainders", "common", "convergents", "coprime_inverse", "alternating"):
            with self.assertRaises(AttributeError):
                setattr(ladder, name, 1)
        with self.assertRaises(TypeError):
            ladder[0] = 5
        ladder.shifted(3)
        ladder.exchanged()
        self.assertEqual(ladder, Ladder(17, 12))
        self.assertEqual(ladder.quotients, (1, 2, 2, 2))


class RefusalTests(unittest.TestCase, Refusals):
    """Every function of a pair checks a first, then b."""

    CALLS = (Ladder, common_factor, inverse_of, are_coprime)

    def test_wrong_first_integers(self):
        for call in self.CALLS:
            for value in not_integers():
                self.assert_no_number(value, call, value, 5)

    def test_wrong_second_integers(self):
        for call in self.CALLS:
            for value in FAILING_NUMBERS + not_integers():
                self.assert_no_number(value, call, 5, value)

    def test_first_comes_before_second(self):
        for call in self.CALLS:
            for value in not_integers():
                self.assert_no_number(value, call, value, 0)
                self.assert_no_number(value, call, value, "b")
                self.assert_no_number("a", call, "a", value)

    def test_named_arguments(self):
        for call in self.CALLS:
            self.assert_no_number(True, call, b=0, a=True)
        self.assertEqual(Ladder(b=12, a=17), Ladder(17, 12))

    def test_sixty_digits(self):
        for call in self.CALLS:
            call(SIXTY, SIXTY - 1)
            call(-SIXTY, SIXTY - 1)
            self.assert_no_number(SIXTY_ONE, call, SIXTY_ONE, 1)
            self.assert_no_number(SIXTY_ONE, call, 1, SIXTY_ONE)

    def test_wrong_shifts(self):
        ladder = Ladder(17, 12)
        for times in not_integers():
            self.assert_no_number(times, ladder.shifted, times)
        self.assertEqual(ladder, Ladder(17, 12))

    def test_exchanges_that_are_not_allowed(self):
        for a in (0, -1, -7, -SIXTY):
            self.assert_refused(InvalidOperation, Ladder(a, 3).exchanged)


class FunctionTests(unittest.TestCase, Refusals):
    def test_common_factor(self):
        for a, b in PAIRS:
            self.assertEqual(common_factor(a, b), math.gcd(a, b))
        self.assertEqual(common_factor(0, SIXTY), SIXTY)

    def test_are_coprime(self):
        for a, b in PAIRS:
            self.assertIs(are_coprime(a, b), math.gcd(a, b) == 1)
        self.assertIs(are_coprime(0, 1), True)
        self.assertIs(are_coprime(0, 2), False)

    def test_inverse_of(self):
        for a, b in PAIRS:
            if math.gcd(a, b) == 1:
                self.assertEqual(inverse_of(a, b), pow(a, -1, b))
            else:
                self.assert_refused(InvalidOperation, inverse_of, a, b)

    def test_inverse_for_one_is_zero(self):
        for a in (0, 1, -1, 3, SIXTY, -SIXTY):
            self.assertEqual(inverse_of(a, 1), 0)


class PairFromTests(unittest.TestCase, Refusals):
    def test_pairs_in_lowest_terms(self):
        for a, b in SMALL + [(987654321, 123456789), (-(10 ** 11), 7)]:
            common = math.gcd(a, b)
            self.assertEqual(pair_from(Ladder(a, b).quotients), (a // common, b // common))

    def test_kinds_of_values(self):
        pair = pair_from((0, 2, 2, 2))
        self.assertIs(type(pair), tuple)
        self.assertEqual([type(one) for one in pair], [int, int])

    def test_one_quotient(self):
        for quotient in (0, 1, -1, 5, -5, 10 ** 12 - 1, 1 - 10 ** 12):
            self.assertEqual(pair_from((quotient,)), (quotient, 1))

    def test_twelve_digits_and_three_hundred_quotients(self):
        for quotients in [(10 ** 12 - 1,) * 300, (-(10 ** 12) + 1, *(1,) * 298, 2)]:
            value = value_of(quotients)
            self.assertEqual(pair_from(quotients), (value.numerator, value.denominator))

    def test_lengths(self):
        self.assert_refused(InvalidOperation, pair_from, ())
        self.assert_refused(InvalidOperation, pair_from, (2,) * 301)

    def test_thirteen_digits(self):
        for quotients in [(10 ** 12,), (-(10 ** 12),), (1, 10 ** 12), (1, 10 ** 12, 2), (SIXTY, 2)]:
            self.assert_refused(InvalidOperation, pair_from, quotients)

    def test_quotients_that_are_too_small(self):
        for quotients in [(0, 1), (3, 2, 1), (0, 0), (0, 0, 2), (1, -2), (1, -1, 2), (1, 2, 0), (1, 2, 0, 2)]:
            self.assert_refused(InvalidOperation, pair_from, quotients)
        self.assertEqual(pair_from((0, 2)), (1, 2))
        self.assertEqual(pair_from((-4, 1, 2)), (-10, 3))

    def test_no_tuple(self):
        values = [one for one in not_integers() if not isinstance(one, tuple)]
        for value in [*values, 0, 5, [0, 2, 2], {0: 2}, "0 2", Ladder(17, 12)]:
            self.assert_refused(InvalidOperation, pair_from, value)

    def test_tuples_with_something_else(self):
        for value in not_integers():
            self.assert_refused(InvalidOperation, pair_from, (value,))
            self.assert_refused(InvalidOperation, pair_from, (value, 2))
            self.assert_refused(InvalidOperation, pair_from, (1, value))
            self.assert_refused(InvalidOperation, pair_from, (1, value, 2))


if __name__ == "__main__":
    unittest.main()
