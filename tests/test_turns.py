"""Turns and words, against products of plain tables and against the statements about phi and psi."""

import itertools
import random
import unittest
from fractions import Fraction

from tests.plain import exchanged_sum
from tests.samples import SIXTY, SIXTY_ONE, Refusals, neighbors, not_integers, plain_wrong_values
from toothchain.base.ladders import Ladder
from toothchain.base.ratios import Ratio
from toothchain.errors import InvalidTurn, InvalidWord
from toothchain.turns.turns import MAX_WORD, Turn, is_word, word_turn

ONE = ((1, 0), (0, 1))
TABLES = {"U": ((1, 1), (0, 1)), "V": ((1, 0), (1, 1))}
WORDS = ["".join(letters) for many in range(8) for letters in itertools.product("UV", repeat=many)]


def times(one, other):
    return tuple(
        tuple(sum(one[row][at] * other[at][column] for at in (0, 1)) for column in (0, 1)) for row in (0, 1)
    )


def plain_power(rows, exponent):
    value = ONE
    for _ in range(exponent):
        value = times(value, rows)
    return value


def table(word):
    rows = ONE
    for letter in word:
        rows = times(rows, TABLES[letter])
    return rows


def turn(rows):
    (p, q), (r, t) = rows
    return Turn(p, q, r, t)


def sign(number):
    return (number > 0) - (number < 0)


def plain_phi(rows):
    (p, q), (r, t) = rows
    if r == 0:
        return q * t
    value = Fraction(p + t, r) - 12 * sign(r) * exchanged_sum(t, abs(r))
    assert value.denominator == 1
    return value.numerator


def small_tables():
    numbers = range(-4, 5)
    for p, q, r, t in itertools.product(numbers, repeat=4):
        if p * t - q * r == 1:
            yield (p, q), (r, t)


def columns(one, other):
    """The table of two neighboring fractions, in the order that gives the determinant 1."""
    (p, r), (q, t) = one, other
    return ((p, q), (r, t)) if p * t - q * r == 1 else ((q, p), (t, r))


def long_tables():
    """Tables with integers of many digits, up to sixty and more."""
    x, y = list(neighbors())[-3]
    yield columns((x, y), (y - x, x))
    yield columns(*Ladder(-7 ** 60, 10 ** 50 + 9).convergents[-2:])
    yield (1, SIXTY), (0, 1)
    yield (-1, SIXTY), (0, -1)
    yield (1, 0), (-SIXTY, 1)
    yield (SIXTY, -1), (1, 0)
    yield (0, 1), (-1, -SIXTY)


SMALL = list(small_tables())
LONG = list(long_tables())


class MakingTests(unittest.TestCase, Refusals):
    def test_rows_and_trace(self):
        for rows in SMALL + LONG:
            self.assertEqual((turn(rows).rows, turn(rows).trace), (rows, rows[0][0] + rows[1][1]))
            self.assertEqual([type(turn(rows).rows), *map(type, turn(rows).rows)], [tuple] * 3)

    def test_other_determinants(self):
        for p, q, r, t in itertools.product(range(-2, 3), repeat=4):
            if p * t - q * r != 1:
                self.assert_refused(InvalidTurn, Turn, p, q, r, t)
        self.assert_refused(InvalidTurn, Turn, SIXTY, 0, 0, SIXTY)

    def test_wrong_integers(self):
        for value in not_integers():
            for at in range(4):
                numbers = [1, 0, 0, 1]
                numbers[at] = value
                self.assert_refused(InvalidTurn, Turn, *numbers)
        for numbers in ((True, 0, 0, 1), (1, False, 0, 1), (1, 0, False, 1), (1, 0, 0, True)):
            self.assert_refused(InvalidTurn, Turn, *numbers)

    def test_sixty_digits(self):
        self.assertEqual(Turn(1, SIXTY, 0, 1).rows, ((1, SIXTY), (0, 1)))
        self.assert_refused(InvalidTurn, Turn, 1, SIXTY_ONE, 0, 1)
        self.assert_refused(InvalidTurn, Turn, 1, 0, -SIXTY_ONE, 1)

    def test_named_arguments(self):
        self.assertEqual(Turn(t=1, r=1, q=2, p=3).rows, ((3, 2), (1, 1)))

    def test_never_change(self):
        one = Turn(3, 2, 1, 1)
        for name in ("rows", "trace", "phi", "psi"):
            with self.assertRaises(AttributeError):
                setattr(one, name, 1)
        other = Turn(0, -1, 1, 0)
        results = [one * other, -one, one.inverse(), one.power(3), one.around(other), one.word()]
        self.assertEqual((len(results), one.rows, other.rows), (6, ((3, 2), (1, 1)), ((0, -1), (1, 0))))

    def test_no_iteration(self):
        with self.assertRaises(TypeError):
            iter(Turn(1, 0, 0, 1))


class ProductTests(unittest.TestCase, Refusals):
    def test_products(self):
        for one, other in itertools.product(SMALL[::3] + LONG, SMALL[::7] + LONG):
            product = turn(one) * turn(other)
            self.assertIs(type(product), Turn)
            self.assertEqual(product.rows, times(one, other))

    def test_opposites_and_inverses(self):
        for rows in SMALL + LONG:
            (p, q), (r, t) = rows
            self.assertEqual((-turn(rows)).rows, ((-p, -q), (-r, -t)))
            self.assertEqual(turn(rows).inverse().rows, ((t, -q), (-r, p)))
            self.assertEqual((turn(rows) * turn(rows).inverse()).rows, ONE)

    def test_powers(self):
        for rows in SMALL[::5] + LONG:
            inverse = turn(rows).inverse().rows
            for exponent in (0, 1, 2, 3, 7, 39, 40):
                self.assertEqual(turn(rows).power(exponent).rows, plain_power(rows, exponent))
                self.assertEqual(turn(rows).power(-exponent).rows, plain_power(inverse, exponent))

    def test_wrong_exponents(self):
        for exponent in [41, -41, 100, SIXTY, -SIXTY, *not_integers()]:
            self.assert_no_number(exponent, Turn(3, 2, 1, 1).power, exponent)
            self.assert_no_number(exponent, Turn(1, 0, 0, 1).power, exponent)

    def test_around(self):
        for one, other in itertools.product(SMALL[::5] + LONG, SMALL[::11] + LONG):
            inverse = turn(other).inverse().rows
            self.assertEqual(turn(one).around(turn(other)).rows, times(times(other, one), inverse))

    def test_what_is_no_turn(self):
        one = Turn(3, 2, 1, 1)
        for value in [0, 1, SIXTY, ((1, 0), (0, 1)), *not_integers()]:
            self.assert_refused(InvalidTurn, lambda: one * value)
            self.assert_refused(InvalidTurn, one.around, value)

    def test_long_results_can_be_used_again(self):
        for rows in LONG:
            long = turn(rows).power(40)
            expected = plain_power(rows, 40)
            self.assertEqual((long * long).rows, times(expected, expected))
            self.assertEqual((-long).inverse().rows, tuple(tuple(-one for one in two) for two in long.inverse().rows))
            self.assertEqual((long.power(-1) * long).rows, ONE)
            self.assertEqual(long.trace, expected[0][0] + expected[1][1])
            self.assertEqual(long, turn(rows).power(20) * turn(rows).power(20))


class EqualityTests(unittest.TestCase):
    def test_equal_tables(self):
        for one, other in itertools.product(SMALL[::7], SMALL[::7]):
            self.assertIs(turn(one) == turn(other), one == other)
            self.assertIs(turn(one) != turn(other), one != other)

    def test_equal_to_nothing_else(self):
        one = Turn(1, 0, 0, 1)
        for value in [*plain_wrong_values(), 1, ONE, [[1, 0], [0, 1]], "1 0; 0 1", Ratio(1), Ladder(1, 1), Turn]:
            self.assertIs(one == value, False)
            self.assertIs(value == one, False)
            self.assertIs(one != value, True)
            self.assertIs(value != one, True)

    def test_text(self):
        self.assertEqual(str(Turn(3, 2, 1, 1)), "3 2; 1 1")
        self.assertEqual(str(Turn(-1, 0, -7, -1)), "-1 0; -7 -1")
        self.assertEqual(str(Turn(1, SIXTY, 0, 1) * Turn(1, 1, 0, 1)), f"1 {SIXTY_ONE}; 0 1")

    def test_text_of_longer_integers_than_python_writes(self):
        text = str(Turn(SIXTY, -1, 1, 0).power(40).power(2))
        self.assertGreater(len(text), 4 * 4700)
        self.assertEqual([len(row.split(" ")) for row in text.split("; ")], [2, 2])


class PhiTests(unittest.TestCase):
    def test_phi(self):
        for rows in SMALL + LONG:
            self.assertIs(type(turn(rows).phi), int)
            self.assertEqual(turn(rows).phi, plain_phi(rows))

    def test_psi(self):
        for rows in SMALL + LONG:
            (p, _), (r, t) = rows
            self.assertIs(type(turn(rows).psi), int)
            self.assertEqual(turn(rows).psi, plain_phi(rows) - 3 * sign(r * (p + t)))

    def test_lower_left_integers(self):
        # Of 0, with both signs on the diagonal, above 0 and below 0.
        self.assertEqual([Turn(1, 7, 0, 1).phi, Turn(-1, 7, 0, -1).phi, Turn(1, -7, 0, 1).psi], [7, -7, -7])
        self.assertEqual([Turn(0, -1, 1, 0).phi, Turn(0, 1, -1, 0).phi], [0, 0])
        self.assertEqual([Turn(1, 0, 5, 1).phi, Turn(1, 0, -5, 1).phi], [plain_phi(((1, 0), (5, 1))), 2])

    def test_traces(self):
        for rows in SMALL:
            if abs(turn(rows).trace) <= 2:
                self.assertEqual((turn(rows).phi, turn(rows).psi), (
                    plain_phi(rows), plain_phi(rows) - 3 * sign(rows[1][0] * turn(rows).trace)))
        traces = {turn(rows).trace for rows in SMALL}
        self.assertLessEqual({-2, -1, 0, 1, 2}, traces)

    def test_phi_of_products(self):
        for one, other in itertools.product(SMALL[::3] + LONG, SMALL[::5] + LONG):
            product = turn(one) * turn(other)
            bend = 3 * sign(one[1][0] * other[1][0] * product.rows[1][0])
            self.assertEqual(product.phi, turn(one).phi + turn(other).phi - bend)

    def test_phi_of_opposites_and_inverses(self):
        for rows in SMALL + LONG:
            self.assertEqual((-turn(rows)).phi, turn(rows).phi)
            self.assertEqual(turn(rows).inverse().phi, -turn(rows).phi)

    def test_psi_around_others(self):
        for one, other in itertools.product(SMALL[::3] + LONG, SMALL[::5] + LONG):
            self.assertEqual(turn(one).around(turn(other)).psi, turn(one).psi)

    def test_psi_of_powers(self):
        tables = [rows for rows in SMALL + LONG if abs(turn(rows).trace) > 2]
        self.assertGreater(len(tables), 20)
        for rows in tables[::4] + tables[-6:]:
            for exponent in (-40, -3, -1, 0, 1, 2, 5, 40):
                self.assertEqual(turn(rows).power(exponent).psi, exponent * turn(rows).psi)


class WordTests(unittest.TestCase, Refusals):
    def test_word_turn(self):
        for word in WORDS:
            self.assertIs(type(word_turn(word)), Turn)
            self.assertEqual(word_turn(word).rows, table(word))

    def test_empty_word(self):
        self.assertEqual(word_turn("").rows, ONE)
        self.assertEqual(Turn(1, 0, 0, 1).word(), "")
        self.assertIs(is_word(""), True)

    def test_words_come_back(self):
        for word in WORDS:
            self.assertEqual(turn(table(word)).word(), word)
        source = random.Random(70)
        for many in (50, 399, 400):
            for odds in ("UV", "UUUUUUUUV", "VVVVVVVVVVVVU", "U", "V"):
                word = "".join(source.choice(odds) for _ in range(many))
                self.assertEqual(word_turn(word).word(), word)

    def test_psi_and_phi_of_words(self):
        for word in [*WORDS, "UV" * 200, "U" * 400, "V" * 400, "UVVVUUUV" * 50]:
            psi = word.count("U") - word.count("V")
            self.assertEqual(word_turn(word).psi, psi)
            self.assertEqual(word_turn(word).phi, psi + (3 if "V" in word else 0))

    def test_only_turns_without_negative_integers_have_words(self):
        for rows in SMALL + LONG:
            if min(*rows[0], *rows[1]) < 0:
                self.assert_not_allowed(turn(rows).word)
            elif max(*rows[0], *rows[1]) < 100:
                self.assertEqual(table(turn(rows).word()), rows)

    def test_last_letter(self):
        for word in WORDS[1:]:
            (p, q), (r, t) = table(word)
            self.assertEqual(word[-1], "U" if q >= p and t >= r else "V")

    def test_four_hundred_letters(self):
        self.assertEqual(MAX_WORD, 400)
        for word in ("U" * 400, "V" * 400, "UV" * 200, "U" * 399 + "V"):
            self.assertEqual(word_turn(word).word(), word)
            self.assert_too_many(400, (word_turn(word) * word_turn("U")).word)
            self.assert_too_many(400, (word_turn("V") * word_turn(word)).word)
            self.assert_too_many(400, word_turn(word).power(40).word)

    def test_words_that_are_much_too_long(self):
        for rows in ((1, SIXTY), (0, 1)), ((1, 0), (SIXTY, 1)):
            self.assert_too_many(400, turn(rows).word)
            self.assert_too_many(400, (turn(rows) * turn(rows)).word)
        self.assert_too_many(400, Turn(1, 401, 0, 1).word)
        self.assertEqual(Turn(1, 400, 0, 1).word(), "U" * 400)
        self.assert_not_allowed(Turn(1, -SIXTY, 0, 1).word)
        self.assert_not_allowed((-Turn(1, SIXTY, 0, 1)).word)

    def test_is_word(self):
        for word in [*WORDS, "U" * 400, "V" * 400, "UV" * 200]:
            self.assertIs(is_word(word), True)
        for value in ["U" * 401, "UV" * 1000, "u", "v", "UVW", " U", "U ", "U\n", "U\nV", "U,V", *not_integers()]:
            if value != "":
                self.assertIs(is_word(value), False)
        for value in (0, 1, SIXTY, ("U", "V"), ["U"], ("U",), Turn(1, 1, 0, 1)):
            self.assertIs(is_word(value), False)

    def test_what_is_no_word(self):
        for value in ["U" * 401, "uv", "UVX", " ", 0, 1, ("U", "V"), ["U"], Turn(1, 1, 0, 1), *not_integers()]:
            if value != "":
                self.assert_refused(InvalidWord, word_turn, value)


if __name__ == "__main__":
    unittest.main()
