"""The examples of the document, just as they stand there."""

import doctest
import unittest

from toothchain.base import ladders, ratios
from toothchain.bench import bench
from toothchain.counts import lines, points, steps
from toothchain.rows import mixing
from toothchain.sums import alike, chains, higher, several, shifts, teeth
from toothchain.text import shell, texts
from toothchain.turns import turns

RATIOS = """
>>> [str(Ratio(6, -8)), str(Ratio(1, 2) + Ratio(1, 3)), str(2 - Ratio(1, 3)), str(Ratio(-7, 2).part), Ratio(-7, 2).floor, Ratio(4, 2) == 2, Ratio(1, 2).compare(1)]
['-3/4', '5/6', '5/3', '1/2', -4, True, -1]
>>> [str(Ratio(2, 3).over(4)), str(Ratio(-2, 3).power(3)), str(abs(Ratio(-5))), bool(Ratio(0, 7)), str(total((1, Ratio(1, 2), Ratio(1, 2)))), Ratio(0, -3).bottom]
['1/6', '-8/27', '5', False, '2', 1]
"""

LADDERS = """
>>> ladder = Ladder(17, 12)
>>> [ladder.quotients, ladder.remainders, ladder.convergents, ladder.coprime_inverse, ladder.alternating, str(ladder), len(ladder.exchanged())]
[(1, 2, 2, 2), (12, 5, 2, 1), ((1, 1), (3, 2), (7, 5), (17, 12)), 5, 2, '17/12: 1 2 2 2', 5]
>>> [Ladder(-7, 3).quotients, Ladder(0, 4).common, Ladder(6, 4).coprime_inverse, inverse_of(3, 1), pair_from((0, 2, 2, 2)), are_coprime(-9, 4)]
[(-3, 1, 2), 4, None, 0, (5, 12), True]
"""

TEETH = """
>>> [str(tooth(Ratio(7, 4))), str(tooth(-3)), str(bend(Ratio(1, 2))), str(tooth_sum(1, 3)), str(tooth_sum(5, 12)), str(tooth_sum(2, 5)), str(tooth_sum(10, 24))]
['1/4', '0', '-1/12', '1/18', '-1/72', '0', '-1/72']
>>> [[str(one) for one in tooth_row(2, 3)], str(greatest_sum(5)), [str(one) for one in ladder_sum(17, 12)], [str(one) for one in ladder_sum(3, 1)]]
[['0', '-1/36', '-1/36'], '1/5', ['2', '5/6', '-3'], ['0', '0', '0']]
"""

CHAINS = """
>>> is_chain_certificate(5, 12, ((5, 12, -1, 72), (12, 5, 0, 1), (2, 5, 0, 3), (5, 2, 0, 1), (1, 2, 0, 1), (2, 1, 0, 1), (0, 1, 0, 1)))
True
>>> walk = Walk(5, 12)
>>> [walk.exchange(), walk.shift(), str(walk.offset), walk.sign, walk.steps, str(walk), walk.negate(), walk.undo(), walk.invert()]
[(12, 5), (2, 5), '-1/72', -1, ('exchange', 'shift'), 'walk from 5/12: 2 steps, at 2/5', (-2, 5), (2, 5), (3, 5)]
>>> [walk.finish() > 0, str(walk.result), is_chain_certificate(5, 12, walk.certificate()), is_chain_certificate(2, 4, ((2, 4, 0, 1), (1, 2, 0, 1), (0, 2, 0, 1)))]
[True, '-1/72', True, False]
"""

ALIKE = """
>>> [str(twelfths(1, 3)), is_zero_sum(2, 5), has_whole_twelfths(4, 10), have_like_rests(1, 5, 8), have_equal_sums(1, 5, 8), sum_classes(5), zeros(10)]
['2/3', True, True, True, False, ((1,), (2, 3), (4,)), (3, 7)]
>>> [rest_classes(8), sum_classes(8), who_has(3, Ratio(1, 18)), nearest(5, 1), nearest(5, Ratio(1, 10)), sum_classes(1)]
[((1, 5), (3, 7)), ((1,), (3,), (5,), (7,)), (1,), (1,), (1, 2, 3), ((0,),)]
"""

SEVERAL = """
>>> [[str(one) for one in three_terms(2, 3, 5)], str(three_total(2, 3, 5)), divisors_of(12), divisor_sum(12), divisor_pairs(2, 1, 3), str(divisor_total(2, 1, 3))]
[['0', '1/18', '-1/5'], '-13/90', (1, 2, 3, 4, 6, 12), 28, ((2, 3), (1, 6), (4, 6)), '1/6']
>>> [str(row_total(3)), str(row_total(3, 1)), str(row_total(3, -4)), str(row_total(2))]
['1/162', '-1/324', '-1/324', '0']
"""

TURNS = """
>>> turn = word_turn("UUV")
>>> [str(turn), turn.phi, turn.psi, turn.inverse().phi, str(turn * turn), (turn * turn).phi, (turn * turn).word(), str(-turn), (-turn).phi]
['3 2; 1 1', 4, 1, -4, '11 8; 4 3', 5, 'UUVUUV', '-3 -2; -1 -1', 4]
>>> [Turn(5, 2, 2, 1).word(), Turn(0, -1, 1, 0).phi, Turn(0, -1, 1, 1).psi, Turn(1, 0, 0, 1).word(), turn.around(Turn(0, -1, 1, 0)).psi, turn.power(-2).psi, Turn(1, 7, 0, 1).phi]
['UUVV', 0, -2, '', 1, -2, 7]
"""

SHIFTS = """
>>> [str(shifted_sum(1, 1, 0, Ratio(1, 3))), str(shifted_sum(2, 3, Ratio(1, 2), 0)), str(shifted_sum(3, 2, 0, Ratio(1, 2))), str(shifted_sum(5, 12, 0, 7))]
['1/36', '1/9', '-1/8', '-1/72']
>>> [str(shifted_exchange(2, 3, Ratio(1, 2), 0)), str(shifted_exchange(5, 12, 0, 0)), [str(one) for one in shifted_row(2, 3, Ratio(1, 2), 0)]]
['-1/72', '-1/72', ['0', '1/18', '1/18']]
>>> HALF = Ratio(1, 2)
>>> is_shifted_certificate(2, 3, HALF, 0, ((2, 3, HALF, 0, Ratio(1, 9)), (3, 2, 0, HALF, Ratio(-1, 8)), (1, 2, HALF, HALF, Ratio(-1, 8)), (2, 1, HALF, HALF, 0)))
True
"""

LINES = """
>>> [line_sum(4, 3, 1, 2), line_moment(4, 3, 1, 2), line_square(4, 3, 1, 2), line_row(4, 3, 1, 2), line_sum(3, -2, 0, 3), line_sum(10 ** 20, 1, 0, 1)]
[10, 23, 38, (0, 2, 3, 5), -3, 4999999999999999999950000000000000000000]
>>> [whole_steps(10, 2, 1, 5), rest_total(4, 3, 1, 2), rest_square(3, 2, 0, 5), str(tooth_line(3, 1, 0, 3)), str(tooth_line(2, 1, 0, 4)), line_moment(12, 5, 0, 12)]
[2, 2, 20, '0', '-1/4', 178]
"""

POINTS = """
>>> [triangle_points(2, 3, 6), triangle_inner(2, 3, 12), triangle_points(2, 3, -1), triangle_row(2, 3, 6), corner_points(1, 2, 3, 1), corner_points(2, 3, 5, 1), corner_points(2, 3, 5, 0)]
[7, 7, 0, (4, 2, 1), 8, 18, 1]
>>> [corner_inner(2, 3, 5, 2), corner_face(2, 3, 5, 2), [str(one) for one in corner_polynomial(1, 1, 1)], [str(one) for one in corner_polynomial(2, 3, 5)], corner_layers(1, 2, 3, 1)]
[15, 6, ['1', '11/6', '1', '1/6'], ['1', '4', '8', '5'], (4, 2, 1, 1)]
"""

STEPS = """
>>> [reaches(3, 5, 7), reaches(3, 5, 8), reaches(3, 5, -3), ways(3, 5, 15), all_ways(3, 5, 15), ways(3, 5, 7), ways(1, 1, 4)]
[False, True, False, 2, ((0, 3), (5, 0)), 0, 5]
>>> [gap_count(3, 5), gap_total(3, 5), last_gap(3, 5), all_gaps(3, 5), gaps_below(3, 5, 5), gap_at(3, 5, 2), all_gaps(1, 9), gaps_below(3, 5, -4)]
[4, 14, 7, (1, 2, 4, 7), 3, 4, (), 0]
"""

MIXING = """
>>> row = MixingRow(5, 3, 8)
>>> [row.after(2), row.before(5), row.cycle(0), row.is_full, str(row.pair_total()), str(row.correlation()), row.repeated(-1) == row.inverse(), str(row.then(row))]
[5, 2, (0, 3, 2, 5, 4, 7, 6, 1), True, '1/4', '1/3', True, 'x -> 1 x + 2 mod 8']
>>> [flattest(5), flattest(8), least_square(5, 8), is_least_vector(5, 8, (2, -2)), is_least_vector(5, 8, (3, 1)), least_square(0, 1), MixingRow(-3, 10, 7).multiplier]
[(4,), (5,), 8, True, False, 1, 4]
"""

HIGHER = """
>>> [str(bernoulli(1)), str(bernoulli(4)), str(bernoulli_value(3, Ratio(1, 3))), str(higher_tooth(3, Ratio(7, 3))), str(higher_tooth(1, 5)), str(power_total(3, 5))]
['-1/2', '-1/30', '1/27', '1/27', '0', '100']
>>> [str(higher_sum(3, 1, 3)), str(higher_sum(3, 2, 5)), str(higher_sum(1, 1, 3)), str(higher_exchange(3, 1, 3)), is_higher_certificate(3, 1, 3, ((1, 3, -1, 81), (3, 1, 0, 1), (0, 1, 0, 1)))]
['-1/81', '-3/625', '1/18', '-4/3', True]
"""

BENCHES = """
>>> bench = Bench()
>>> [[str(new) for name, old, new in bench.enter("one", 1, 3)], len(bench.enter("two", 2, 3)), bench.pin(("least", "one", Ratio(1, 18))), bench.shift_pair("two", 5), bench["two"], str(bench)]
[['1/18'], 1, (), (), (17, 3), 'bench of 2 pairs, 1 pins']
>>> [write_number(Ratio(-3, 4)), read_chain("1 3 1 18; 3 1 0 1; 0 1 0 1"), read_turn("3 2; 1 1") == word_turn("UUV"), str(read_number("5/7")), write_number(5)]
['-3/4', ((1, 3, 1, 18), (3, 1, 0, 1), (0, 1, 0, 1)), True, '5/7', '5']
>>> shell = Shell()
>>> [shell("enter a 5 12"), shell("invert a"), shell("pin zero a"), shell("sums"), shell("phi UUV"), shell("ladder a"), shell("exchange a"), shell("sum nobody"), len(shell)]
['a - -1/72', 'none', 'refused zero a', 'a:-1/72', '4', '5/12: 0 2 2 2', 'a -1/72 0', 'unknown nobody', 6]
"""

MODULES = {
    "ratios": (ratios, RATIOS), "ladders": (ladders, LADDERS), "teeth": (teeth, TEETH), "chains": (chains, CHAINS),
    "alike": (alike, ALIKE), "several": (several, SEVERAL), "turns": (turns, TURNS), "shifts": (shifts, SHIFTS),
    "lines": (lines, LINES), "points": (points, POINTS), "steps": (steps, STEPS), "mixing": (mixing, MIXING),
    "higher": (higher, HIGHER), "benches": (shell, BENCHES),
}


def document_tests():
    """One doctest for each heading; its names are those of the interface, from their modules."""
    parser = doctest.DocTestParser()
    for name, (module, text) in MODULES.items():
        names = {"Ratio": ratios.Ratio, **vars(turns), **vars(bench), **vars(texts), **vars(module)}
        yield parser.get_doctest(text, names, name, None, 0)


class ExampleTests(unittest.TestCase):
    def test_examples(self):
        for test in document_tests():
            with self.subTest(test.name):
                result = doctest.DocTestRunner(verbose=False).run(test)
                self.assertEqual(result.failed, 0)
                self.assertEqual(result.attempted, len(test.examples))
                self.assertGreaterEqual(result.attempted, 2)


if __name__ == "__main__":
    unittest.main()
