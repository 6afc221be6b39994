"""The examples of the document, just as they stand there."""

import doctest
import unittest

from toothchain.base import ladders, ratios

RATIOS = """
>>> [str(Ratio(6, -8)), str(Ratio(1, 2) + Ratio(1, 3)), str(2 - Ratio(1, 3)), str(Ratio(-7, 2).part), Ratio(-7, 2).floor, Ratio(4, 2) == 2, Ratio(1, 2).compare(1)]
['-3/4', '5/6', '5/3', '1/2', -4, True, -1]
>>> [str(Ratio(2, 3).over(4)), str(Ratio(-2, 3).power(3)), str(abs(Ratio(-5))), bool(Ratio(0, 7)), str(total((1, Ratio(1, 2), Ratio(1, 2)))), Ratio(0, -3).bottom]
['1/6', '-8/27', '5', False, '2', 1]
"""

LADDERS = """
>>> ladder = Ladder(17, 12)
>>> [ladder.quotients, ladder.remainders, ladder.convergents, ladder.coprime_inverse, ladder.alternating, str(ladder), len(ladder.exchanged())]
[(1, 2, 2, 2), (12, 5, 2, 1), ((1, 1), (3, 2), (7, 5), (17, 12)), 5, 2, '17/12: 1 2 2 2', 5]
>>> [Ladder(-7, 3).quotients, Ladder(0, 4).common, Ladder(6, 4).coprime_inverse, inverse_of(3, 1), pair_from((0, 2, 2, 2)), are_coprime(-9, 4)]
[(-3, 1, 2), 4, None, 0, (5, 12), True]
"""

MODULES = {"ratios": (ratios, RATIOS), "ladders": (ladders, LADDERS)}


def document_tests():
    """One doctest for each heading; its names are those of the interface, from their modules."""
    parser = doctest.DocTestParser()
    for name, (module, text) in MODULES.items():
        yield parser.get_doctest(text, dict(vars(module)), name, None, 0)


class ExampleTests(unittest.TestCase):
    def test_examples(self):
        for test in document_tests():
            with self.subTest(test.name):
                result = doctest.DocTestRunner(verbose=False).run(test)
                self.assertEqual(result.failed, 0)
                self.assertEqual(result.attempted, len(test.examples))
                self.assertGreaterEqual(result.attempted, 2)


if __name__ == "__main__":
    unittest.main()
