"""What the document promises over several modules, for small and for great numbers."""

import math
import random
import unittest

from tests.samples import LONGEST, SIXTY, coprime, random_pairs
from toothchain.base.ladders import Ladder, inverse_of
from toothchain.base.ratios import Ratio, total
from toothchain.bench.bench import Bench
from toothchain.counts.lines import line_moment, line_sum, rest_total, tooth_line
from toothchain.counts.points import corner_inner, corner_layers, corner_points, corner_polynomial, triangle_points
from toothchain.counts.steps import all_gaps, gap_count, gap_total, gaps_below, last_gap, reaches, ways
from toothchain.rows.mixing import MixingRow
from toothchain.sums.alike import has_whole_twelfths, have_equal_sums, have_like_rests, is_zero_sum, twelfths, zeros
from toothchain.sums.chains import Walk, chain_certificate, is_chain_certificate
from toothchain.sums.higher import (
    ORDERS, bernoulli, bernoulli_value, higher_certificate, higher_exchange, higher_sum, higher_tooth,
    is_higher_certificate, power_total,
)
from toothchain.sums.several import divisor_pairs, divisor_sum, divisor_total, row_total, three_terms, three_total
from toothchain.sums.shifts import shifted_certificate, shifted_exchange, shifted_row, shifted_sum
from toothchain.sums.teeth import bend, greatest_sum, ladder_sum, tooth, tooth_row, tooth_sum
from toothchain.text.shell import Shell
from toothchain.text.texts import read_chain, read_number, read_turn, write_chain, write_number, write_turn
from toothchain.turns.turns import Turn, word_turn

NUMBERS = [Ratio(0), Ratio(5), Ratio(-7, 2), Ratio(1, 3), Ratio(-100, 7), Ratio(SIXTY, SIXTY - 1), Ratio(-1, SIXTY)]
PAIRS = [(a, b) for b in range(1, 13) for a in range(-3, b + 4)]
GREAT = [*random_pairs(81, 3), LONGEST, LONGEST[::-1], (SIXTY, SIXTY - 1), (-SIXTY, 6 ** 70), (10 ** 59, 15 ** 50)]
WORDS = ["", "U", "V", "UUV", "VUU", "UVUVV", "UUUUVVV", "VVVV", "UUU", "UV" * 50]


def box(seed):
    source = random.Random(seed)
    while True:
        a, b, c = (source.randrange(1, 10 ** 19) for _ in range(3))
        if math.gcd(a, b) == math.gcd(b, c) == math.gcd(c, a) == 1:
            return a, b, c


class SumTests(unittest.TestCase):
    def test_teeth_and_rows(self):
        """[3.1]"""
        for a, b in PAIRS:
            self.assertEqual(total(tooth_row(a, b)), tooth_sum(a, b))
        for x in NUMBERS:
            self.assertEqual(tooth(-x), -tooth(x))
            self.assertEqual(bend(-x), bend(x))
            self.assertLessEqual(bend(x).compare(Ratio(1, 6)), 0)
            for d in (1, 2, 5, 12):
                self.assertEqual(total(tuple(tooth((x + j).over(d)) for j in range(d))), tooth(x))

    def test_rules_of_sums(self):
        """[0.9] to [0.12]"""
        for a, b in [*PAIRS, *GREAT]:
            value = tooth_sum(a, b)
            self.assertEqual(tooth_sum(a % b, b), value)
            self.assertEqual(tooth_sum(-a, b), -value)
            self.assertLessEqual(abs(value).compare(greatest_sum(b)), 0)
            if math.gcd(a, b) == 1:
                inverse = inverse_of(a, b)
                self.assertEqual(tooth_sum(inverse, b), value)
                self.assertEqual(total(ladder_sum(a, b)), value * 12)
                top = value * 12 * b
                self.assertEqual((top.is_whole, (top.top - a - inverse) % b), (True, 0))
                if a >= 1:
                    both = Ratio(-1, 4) + (Ratio(a) * a + Ratio(b) * b + 1).over(Ratio(a) * b * 12)
                    self.assertEqual(value + tooth_sum(b, a), both)

    def test_chains_and_walks(self):
        """[4.2]"""
        source = random.Random(5)
        for a, b in [(5, 12), (6, 4), (-7, 9), *GREAT]:
            self.assertLessEqual(len(chain_certificate(a, b)), 700)
            walk, value = Walk(a, b), tooth_sum(a, b)
            for _ in range(30):
                call = source.choice([walk.shift, walk.negate, walk.reduce, walk.invert, walk.exchange,
                                      lambda: walk.shift(source.randrange(-9, 10))])
                try:
                    call()
                except ValueError:
                    pass
                p, q = walk.pair
                if max(abs(p), q) <= SIXTY:
                    self.assertEqual(tooth_sum(p, q) * walk.sign + walk.offset, value)
            walk.finish()
            self.assertEqual(walk.result, value)
            self.assertIs(is_chain_certificate(a, b, walk.certificate()), True)

    def test_likes(self):
        """[5.1] and [5.2]"""
        for a, b in [*PAIRS, *GREAT, (2, 5), (10 ** 29, 10 ** 58 + 1)]:
            common = math.gcd(a, b)
            p, q = a // common, b // common
            divides = (p * p + 1) % q == 0
            self.assertEqual((is_zero_sum(a, b), has_whole_twelfths(a, b)), (divides, divides))
            self.assertEqual((tooth_sum(a, b) == 0, twelfths(a, b).is_whole), (divides, divides))
        for b in (7, 8, 15, 24):
            units = [a for a in range(b) if math.gcd(a, b) == 1]
            self.assertEqual(zeros(b), tuple(a for a in units if is_zero_sum(a, b)))
            for a in units:
                for c in units:
                    like = (a - c) * (a * c - 1) % b == 0
                    self.assertIs(have_like_rests(a, c, b), like)
                    self.assertIs((twelfths(a, b) - twelfths(c, b)).is_whole, like)
                    self.assertTrue(like or not have_equal_sums(a, c, b))

    def test_several(self):
        """[6.1] to [6.3]"""
        for a, b, c in [(1, 1, 1), (2, 3, 5), (7, 9, 1), (4, 25, 9), box(1), box(2), (2 ** 60, 3 ** 40, 5 ** 30)]:
            value = three_total(a, b, c)
            self.assertEqual(total(three_terms(a, b, c)), value)
            squares = Ratio(a) * a + Ratio(b) * b + Ratio(c) * c
            self.assertEqual(value, Ratio(-1, 4) + squares.over(Ratio(a) * b * c * 12))
        for a, b in coprime([(5, 12), (7, 3), (10 ** 30, 10 ** 29 + 1)]):
            self.assertEqual(three_total(a, b, 1), tooth_sum(a, b) + tooth_sum(b, a))
        for number in (1, 2, 6, 12, 60):
            for a, b in [(1, 3), (5, 12), (-7, 10 ** 50 + 9), (10 ** 57, 3 ** 110)]:
                pairs = divisor_pairs(number, a, b)
                self.assertEqual(total(tuple(tooth_sum(p, q) for p, q in pairs)), divisor_total(number, a, b))
                self.assertEqual(divisor_total(number, a, b), tooth_sum(a, b) * divisor_sum(number))
        for b in (1, 5, 12):
            self.assertEqual(total(tuple(tooth_sum(a, b) for a in range(b))), 0)
            for shift in range(b):
                self.assertEqual(row_total(b, shift), row_total(b, -shift))
                self.assertEqual(row_total(b, shift), row_total(b, shift + 7 * b))
                self.assertLessEqual(row_total(b, shift).compare(row_total(b)), 0)


class TurnTests(unittest.TestCase):
    TURNS = [word_turn(word) for word in WORDS] + [Turn(0, -1, 1, 0), Turn(0, -1, 1, 1), -word_turn("UVV"), Turn(1, -SIXTY, 0, 1),
                                                 word_turn("UUV").inverse(), Turn(SIXTY, SIXTY - 1, 1, 1), Turn(-1, 0, 0, -1)]

    def sign(self, number):
        return (number > 0) - (number < 0)

    def test_products(self):
        """[7.3]"""
        for one in self.TURNS:
            self.assertEqual(((-one).phi, one.inverse().phi), (one.phi, -one.phi))
            for other in self.TURNS:
                both = one * other
                lower = self.sign(one.rows[1][0] * other.rows[1][0] * both.rows[1][0])
                self.assertEqual(both.phi, one.phi + other.phi - 3 * lower)

    def test_going_around_and_powers(self):
        """[7.4]"""
        for one in self.TURNS:
            for other in self.TURNS:
                self.assertEqual(one.around(other).psi, one.psi)
            if abs(one.trace) > 2:
                for exponent in (-3, -1, 0, 1, 2, 5):
                    self.assertEqual(one.power(exponent).psi, exponent * one.psi)

    def test_words(self):
        """[7.5]"""
        for word in WORDS:
            turn = word_turn(word)
            expected = word.count("U") - word.count("V")
            self.assertEqual((turn.psi, turn.phi), (expected, expected + (3 if "V" in word else 0)))
            self.assertEqual(turn.word(), word)


class ShiftTests(unittest.TestCase):
    def test_shifted_sums(self):
        """[8.2] and [8.4]"""
        for a, b in [(1, 1), (2, 3), (5, 12), (4, 6), (-7, 9), (10 ** 20 + 39, 10 ** 19 + 51), (3 ** 40, 6 ** 20)]:
            for x, y in [(Ratio(0), Ratio(0)), (Ratio(1, 2), Ratio(0)), (Ratio(1, 3), Ratio(-5, 4)), (Ratio(2, 7), Ratio(10 ** 20, 3))]:
                value = shifted_sum(a, b, x, y)
                self.assertEqual(shifted_sum(a, b, x + 1, y), value)
                self.assertEqual(shifted_sum(a, b, x, y + 1), value)
                self.assertEqual(shifted_sum(a + 3 * b, b, x, y), shifted_sum(a, b, x + y * 3, y))
                self.assertEqual(shifted_sum(-a, b, -x, y), -value)
                self.assertEqual(shifted_sum(a, b, -x, -y), value)
                self.assertEqual(shifted_sum(6 * a, 6 * b, x, y), value)
                self.assertEqual(shifted_certificate(a, b, x, y)[0][4], value)
                if b < 20:
                    self.assertEqual(total(shifted_row(a, b, x, y)), value)
                if a >= 1 and math.gcd(a, b) == 1:
                    self.assertEqual(value + shifted_sum(b, a, y, x), shifted_exchange(a, b, x, y))
                for d in (1, 2, 5):
                    parts = tuple(shifted_sum(a, b, x + Ratio(j, d), y) for j in range(d))
                    self.assertEqual(total(parts), shifted_sum(d * a, b, x * d, y))
            self.assertEqual(shifted_sum(a, b, 0, 0), tooth_sum(a, b))
            self.assertEqual(shifted_sum(a, 1, Ratio(1, 3), Ratio(2, 5)), tooth(Ratio(2 * a, 5) + Ratio(1, 3)) * tooth(Ratio(2, 5)))


class CountTests(unittest.TestCase):
    def test_lines(self):
        """[9.1]"""
        for a, b in coprime([*PAIRS, *GREAT]):
            inner = Ratio(a) * (b - 1) * (Ratio(b) * 2 - 1)
            self.assertEqual(line_moment(b, a, 0, b), inner.over(6) - Ratio(b) * (b - 1) * Ratio(1, 4) - tooth_sum(a, b) * b)
            self.assertEqual(line_sum(b, a, 0, b), (a - 1) * (b - 1) // 2)
            self.assertEqual((rest_total(b, a, 0, b), tooth_line(b, a, 0, b)), (b * (b - 1) // 2, 0))

    def test_corners(self):
        """[10.2] and [10.3]"""
        for a, b, c in [(1, 1, 1), (2, 3, 5), (7, 9, 4), (1, 10 ** 19, 3), box(3), box(4)]:
            alone, linear, square, cube = corner_polynomial(a, b, c)
            sums = tooth_sum(b * c, a) + tooth_sum(c * a, b) + tooth_sum(a * b, c)
            squares = Ratio(b * c) * (b * c) + Ratio(c * a) * (c * a) + Ratio(a * b) * (a * b) + 1
            self.assertEqual(linear, Ratio(a + b + c + 3, 4) + squares.over(Ratio(a) * b * c * 12) - sums)
            self.assertEqual((alone, square, cube), (1, Ratio(a * b + b * c + c * a + 1, 4), (Ratio(a) * b * c).over(6)))
            for t in (1, 2, 10 ** 30):
                self.assertEqual(corner_points(a, b, c, t), ((cube * t + square) * t + linear) * t + alone)
                self.assertEqual(-corner_inner(a, b, c, t), ((cube * -t + square) * -t + linear) * -t + alone)
        for a, b, c, t in [(2, 3, 5, 4), (10 ** 9, 10 ** 9 + 1, 3, 11), (1, 1, 1, 200)]:
            layers = corner_layers(a, b, c, t)
            self.assertEqual(sum(layers), corner_points(c, a, b, t))
            self.assertEqual(layers, tuple(triangle_points(b * c, c * a, a * b * c * t - a * b * z) for z in range(c * t + 1)))

    def test_steps(self):
        """[11.1] and [11.2]"""
        for a, b in coprime([(3, 5), (1, 9), (7, 12), (10 ** 20 + 39, 10 ** 19 + 51), (2, 10 ** 50 + 1)]):
            last = a * b - a - b
            for n in (0, 1, a, b, last - 1, last, a * b, a * b + 7, 10 ** 58):
                if n >= 0:
                    u, v = n * inverse_of(b, a) % a, n * inverse_of(a, b) % b
                    self.assertEqual(ways(a, b, n), Ratio(n).over(Ratio(a) * b) - Ratio(u, a) - Ratio(v, b) + 1)
                    self.assertEqual(ways(a, b, n + a * b), ways(a, b, n) + 1)
                    self.assertIsNot(reaches(a, b, n), reaches(a, b, last - n))
                    # Each integer up to n is reached as often as a triangle has points on its line.
                    self.assertEqual(triangle_points(a, b, n) - triangle_points(a, b, n - 1), ways(a, b, n))
            self.assertEqual(gap_count(a, b), (a - 1) * (b - 1) // 2)
            self.assertEqual(gap_total(a, b), (a - 1) * (b - 1) * (2 * a * b - a - b - 1) // 12)
            self.assertEqual(gaps_below(a, b, last + 1), gap_count(a, b))
            if 0 < gap_count(a, b) <= 2000:
                gaps = all_gaps(a, b)
                self.assertEqual((len(gaps), sum(gaps), gaps[-1]), (gap_count(a, b), gap_total(a, b), last_gap(a, b)))

    def test_mixing_rows(self):
        """[12.2]"""
        for a, c, m in [(5, 3, 8), (5, 0, 8), (1, 0, 9), (-1, -1, 9), (7, 5, 12), (10 ** 20 + 39, 10 ** 18, 10 ** 19 + 51), (*LONGEST[:1], 77, LONGEST[1])]:
            row = MixingRow(a, c, m)
            value = row.pair_total()
            if row.addend == 0:
                self.assertEqual(value, tooth_sum(a, m) + Ratio(1, 4))
            else:
                first, zero = tooth(Ratio(row.addend, m)), tooth(Ratio(row.before(0), m))
                self.assertEqual(value, shifted_sum(a, m, Ratio(row.addend, m), 0) - (first + zero).over(2))
            self.assertEqual(row.correlation(), (value * 12 * m - 3).over(Ratio(m) * m - 1))


class HigherTests(unittest.TestCase):
    def test_higher_sums(self):
        """[13.3] and [13.4]"""
        for a, b in [(1, 3), (2, 5), (10, 24), (-7, 9), (10 ** 20 + 39, 10 ** 19 + 51), LONGEST]:
            self.assertEqual(higher_sum(1, a, b), tooth_sum(a, b))
            for p in ORDERS:
                value = higher_sum(p, a, b)
                self.assertEqual(higher_sum(p, a % b, b), value)
                self.assertEqual(higher_sum(p, -a, b), -value)
                if b < 10 ** 30:
                    self.assertEqual(higher_sum(p, 6 * a, 6 * b), value)
                if b < 30:
                    teeth = tuple(higher_tooth(p, Ratio(a * k, b)) * Ratio(k, b) for k in range(b))
                    self.assertEqual(total(teeth), value)
                self.assertIs(is_higher_certificate(p, a, b, higher_certificate(p, a, b)), True)
                if a >= 1 and math.gcd(a, b) == 1:
                    one = value * a * Ratio(b).power(p) + higher_sum(p, b, a) * b * Ratio(a).power(p)
                    self.assertEqual(one * (p + 1), higher_exchange(p, a, b))
                    plain = tuple(
                        bernoulli(k) * bernoulli(p + 1 - k) * math.comb(p + 1, k) * (-1) ** k
                        * Ratio(a).power(k) * Ratio(b).power(p + 1 - k) for k in range(p + 2))
                    self.assertEqual(higher_exchange(p, a, b), total(plain) + bernoulli(p + 1) * p)

    def test_polynomials(self):
        """[13.5]"""
        for n in range(1, 11):
            for x in NUMBERS:
                self.assertEqual(bernoulli_value(n, x + 1) - bernoulli_value(n, x), x.power(n - 1) * n)
                for d in (2, 5):
                    values = tuple(bernoulli_value(n, (x + j).over(d)) for j in range(d))
                    self.assertEqual(total(values), bernoulli_value(n, x).over(Ratio(d).power(n - 1)))
            for count in (0, 1, 9, SIXTY):
                self.assertEqual((bernoulli_value(n, count) - bernoulli(n)).over(n), power_total(n - 1, count))


class TextTests(unittest.TestCase):
    def test_texts_and_values(self):
        """[14.2]"""
        for a, b in [*PAIRS, *GREAT]:
            value = tooth_sum(a, b)
            self.assertEqual(read_number(write_number(value)), value)
            chain = chain_certificate(a, b)
            self.assertEqual(read_chain(write_chain(chain)), chain)
        for turn in TurnTests.TURNS:
            self.assertTrue(read_turn(write_turn(turn)) == turn)

    def test_shells_and_benches(self):
        """[14.3] and [14.4]"""
        shell, bench = Shell(), Bench()
        for name, (a, b) in zip("abcdefgh", [(5, 12), (6, 4), (-7, 9), *GREAT]):
            shell(f"enter {name} {a} {b}")
            bench.enter(name, a, b)
            self.assertEqual(shell(f"sum {name}"), write_number(tooth_sum(a, b)))
            self.assertEqual(shell(f"ladder {name}"), str(Ladder(a, b)))
            self.assertIs(is_chain_certificate(a, b, read_chain(shell(f"chain {name}"))), True)
            pin = ("zero", name) if is_zero_sum(a, b) else ("most", name, tooth_sum(a, b))
            self.assertEqual(bench.pin(pin), ())
            self.assertEqual(shell(" ".join([*pin[:2], *map(write_number, pin[2:])]).join(["pin ", ""])), "none")
        self.assertTrue(shell.bench() == bench)
        self.assertEqual(shell("undo 3"), ", ".join(
            " ".join([name, *["-" if one is None else write_number(one) for one in values]]) for name, *values in bench.undo(many=3)))
        self.assertTrue(shell.bench() == bench)


if __name__ == "__main__":
    unittest.main()
