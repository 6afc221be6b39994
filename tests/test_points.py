"""Integer points in triangles and corners, against counting them one by one."""

import math
import unittest
from fractions import Fraction
from itertools import permutations

from tests.plain import exact, exchanged_sum
from tests.samples import SIXTY, SIXTY_ONE, Refusals, not_integers
from toothchain.base.ratios import Ratio
from toothchain.counts.points import (
    MAX_LAYERS, corner_face, corner_inner, corner_layers, corner_points, corner_polynomial, triangle_inner,
    triangle_points, triangle_row,
)

TRIANGLES = (triangle_points, triangle_inner, triangle_row)
CORNERS = (corner_points, corner_inner, corner_face, corner_layers)
BOXES = [
    (1, 1, 1), (1, 1, 2), (1, 2, 1), (2, 1, 1), (1, 2, 3), (2, 3, 5), (3, 4, 5), (1, 4, 9), (7, 1, 1), (5, 6, 7), (9, 8, 1),
]
LARGE_BOXES = [
    (SIXTY, SIXTY - 1, 1), (1, 1, SIXTY), (2 ** 199, 3 ** 125, 5 ** 85), (10 ** 59, 10 ** 59 + 1, 10 ** 59 + 3),
    (1, 10 ** 30, 10 ** 30 + 1), (2, 3, SIXTY + 1 - 3), (7, 10 ** 40, 10 ** 40 + 9),
]


def coprime_box(a, b, c):
    return math.gcd(a, b) == math.gcd(b, c) == math.gcd(c, a) == 1


def plain_points(a, b, limit):
    return sum(1 for x in range(limit // a + 1) for y in range(limit // b + 1) if a * x + b * y <= limit)


def plain_inner(a, b, limit):
    return sum(1 for x in range(1, limit // a + 1) for y in range(1, limit // b + 1) if a * x + b * y < limit)


def heights(a, b, c, t, least):
    """b c x + c a y + a b z for all points of the box of size t from `least` on."""
    for x in range(least, a * t + 1):
        for y in range(least, b * t + 1):
            for z in range(least, c * t + 1):
                yield b * c * x + c * a * y + a * b * z, z


def plain_corner(a, b, c, t):
    return sum(1 for height, _ in heights(a, b, c, t, 0) if height <= a * b * c * t)


class TriangleTests(unittest.TestCase, Refusals):
    def test_small_triangles(self):
        for a in range(1, 8):
            for b in range(1, 8):
                for limit in range(-3, 3 * a * b + 2):
                    self.assertEqual(triangle_points(a, b, limit), plain_points(a, b, limit), (a, b, limit))
                    self.assertEqual(triangle_inner(a, b, limit), plain_inner(a, b, limit), (a, b, limit))
                    row = tuple((limit - b * y) // a + 1 for y in range(max(limit // b + 1, 0)))
                    self.assertEqual(triangle_row(a, b, limit), row, (a, b, limit))

    def test_kinds(self):
        self.assertIs(type(triangle_points(2, 3, 6)), int)
        self.assertIs(type(triangle_inner(2, 3, 6)), int)
        self.assertEqual({type(one) for one in triangle_row(2, 3, 6)}, {int})

    def test_limits_of_zero_and_below(self):
        for a, b in [(1, 1), (2, 3), (SIXTY, 1), (1, SIXTY), (SIXTY, SIXTY)]:
            self.assertEqual([triangle_points(a, b, limit) for limit in (0, -1, -SIXTY)], [1, 0, 0])
            self.assertEqual([triangle_inner(a, b, limit) for limit in (0, -1, -SIXTY)], [0, 0, 0])
            self.assertEqual([triangle_row(a, b, limit) for limit in (0, -1, -SIXTY)], [(1,), (), ()])

    def test_around_multiples(self):
        for a, b in [(6, 4), (10 ** 30, 10 ** 29 * 3), (5 * 10 ** 58, 10 ** 58)]:
            base = math.lcm(a, b)
            for times in (1, 2):
                on = triangle_points(a, b, times * base)
                step = math.gcd(a, b)
                self.assertEqual(triangle_points(a, b, times * base - 1), on - times - 1)
                self.assertEqual(triangle_points(a, b, times * base + step - 1), on)
                self.assertEqual(triangle_points(a, b, times * base - step) + times + 1, on)
                # What is inside is what a smaller triangle has.
                self.assertEqual(triangle_inner(a, b, times * base + 1), triangle_points(a, b, times * base - a - b))
                self.assertEqual(triangle_inner(a, b, times * base), triangle_points(a, b, times * base - a - b - 1))

    def test_empty_insides(self):
        for a, b in [(2, 3), (1, 1), (SIXTY // 2, SIXTY // 3)]:
            self.assertEqual((triangle_inner(a, b, a + b), triangle_inner(a, b, a + b + 1)), (0, 1))

    def test_great_triangles(self):
        half = (SIXTY + 1) * (SIXTY + 2) // 2
        self.assertEqual(triangle_points(1, 1, SIXTY), half)
        self.assertEqual(triangle_inner(1, 1, SIXTY), (SIXTY - 1) * (SIXTY - 2) // 2)
        self.assertEqual(triangle_points(SIXTY, SIXTY, SIXTY), 3)
        middle = (SIXTY - 1) // 2
        self.assertEqual(triangle_points(2, 1, SIXTY), (middle + 1) * (SIXTY + 1 - middle))
        for a, b in [(10 ** 29 + 3, 10 ** 30 - 7), (3 ** 60, 7 ** 34), (17, 10 ** 58 + 9)]:
            for limit in (SIXTY - 1, 10 ** 59 + 12345, a * b // 10, a + b):
                self.assertEqual(triangle_points(a, b, limit), triangle_points(b, a, limit))
                # With and without the points on both axes.
                axes = limit // a + limit // b + 1
                self.assertEqual(triangle_points(a, b, limit) - axes, triangle_inner(a, b, limit + 1))

    def test_limit_of_rows(self):
        self.assertEqual(MAX_LAYERS, 300)
        self.assertEqual(len(triangle_row(2, 7, 7 * 300 - 1)), 300)
        self.assertEqual(len(triangle_row(1, 10 ** 50, 299 * 10 ** 50)), 300)
        for limit in (7 * 300, SIXTY):
            self.assert_too_many(300, triangle_row, 2, 7, limit)
            # Behind the word "then": wrong arguments come before the limit.
            self.assert_no_number("a", triangle_row, "a", 7, limit)
        self.assert_too_many(300, triangle_row, 1, 10 ** 50, 300 * 10 ** 50)

    def test_wrong_arguments(self):
        for call in TRIANGLES:
            for value in [0, -1, -SIXTY, *not_integers()]:
                self.assert_no_number(value, call, value, 3, 6)
                self.assert_no_number(value, call, value, 0, "limit")
                self.assert_no_number(value, call, 2, value, 6)
                self.assert_no_number(value, call, 2, value, None)
            for value in not_integers():
                self.assert_no_number(value, call, 2, 3, value)
            for at in range(3):
                arguments = [2, 3, 6]
                arguments[at] = SIXTY_ONE
                self.assert_no_number(SIXTY_ONE, call, *arguments)


class CornerTests(unittest.TestCase, Refusals):
    def test_small_corners(self):
        for a, b, c in BOXES:
            for t in range(4 if a * b * c < 40 else 2):
                box = a * b * c * t
                self.assertEqual(corner_points(a, b, c, t), plain_corner(a, b, c, t), (a, b, c, t))
                inside = sum(1 for height, _ in heights(a, b, c, t, 1) if height < box)
                self.assertEqual(corner_inner(a, b, c, t), inside, (a, b, c, t))
                face = sum(1 for height, _ in heights(a, b, c, t, 0) if height == box)
                self.assertEqual(corner_face(a, b, c, t), face, (a, b, c, t))
                layers = [0] * (c * t + 1)
                for height, z in heights(a, b, c, t, 0):
                    layers[z] += height <= box
                self.assertEqual(corner_layers(a, b, c, t), tuple(layers), (a, b, c, t))

    def test_kinds(self):
        self.assertEqual([type(call(2, 3, 5, 1)) for call in CORNERS], [int, int, int, tuple])
        self.assertEqual({type(one) for one in corner_layers(2, 3, 5, 1)}, {int})
        self.assertEqual([type(one) for one in corner_polynomial(2, 3, 5)], [Ratio] * 4)

    def test_polynomials(self):
        for a, b, c in [*BOXES, *LARGE_BOXES]:
            self.assertTrue(coprime_box(a, b, c))
            product = Fraction(a * b * c)
            sums = exchanged_sum(b * c, a) + exchanged_sum(c * a, b) + exchanged_sum(a * b, c)
            squares = (b * c) ** 2 + (c * a) ** 2 + (a * b) ** 2 + 1
            expected = [1, Fraction(a + b + c + 3, 4) + squares / (12 * product) - sums,
                        Fraction(a * b + b * c + c * a + 1, 4), product / 6]
            self.assertEqual([exact(one) for one in corner_polynomial(a, b, c)], expected)
            for t in (0, 1, 2, 7, 10 ** 20, SIXTY):
                self.assertEqual(corner_points(a, b, c, t), sum(one * t ** at for at, one in enumerate(expected)))
                if t > 0:
                    self.assertEqual(-corner_inner(a, b, c, t),
                                     sum(one * (-t) ** at for at, one in enumerate(expected)))

    def test_sizes_of_zero_and_one(self):
        for a, b, c in [*BOXES, *LARGE_BOXES]:
            self.assertEqual((corner_points(a, b, c, 0), corner_inner(a, b, c, 0), corner_face(a, b, c, 0)), (1, 0, 1))
            self.assertEqual(corner_layers(a, b, c, 0), (1,))
            self.assertEqual(corner_face(a, b, c, 1), 3)
            # Without its face a corner has as many points as it has opposite ones inside, and more.
            self.assertGreater(corner_points(a, b, c, 1), corner_inner(a, b, c, 1) + 3)

    def test_empty_insides(self):
        for box in [(1, 1, 1), (1, 1, 2), (1, 2, 3), (1, 1, SIXTY)]:
            self.assertEqual(corner_inner(*box, 1), 0)
        self.assertEqual([corner_inner(1, 1, 1, t) for t in range(6)], [0, 0, 0, 0, 1, 4])
        self.assertEqual([corner_inner(2, 3, 5, t) for t in (1, 2)], [0, 15])

    def test_faces(self):
        for t in (0, 1, 2, 9, SIXTY):
            self.assertEqual({corner_face(a, b, c, t) for a, b, c in [*BOXES, *LARGE_BOXES]},
                             {(t + 1) * (t + 2) // 2})

    def test_the_order_changes_nothing(self):
        for box in [*BOXES, *LARGE_BOXES]:
            for t in (0, 1, 3, SIXTY):
                for call in (corner_points, corner_inner, corner_face):
                    self.assertEqual({call(*one, t) for one in permutations(box)}, {call(*box, t)})
            self.assertEqual({tuple(map(str, corner_polynomial(*one))) for one in permutations(box)},
                             {tuple(map(str, corner_polynomial(*box)))})

    def test_layers(self):
        for a, b, c, t in [(2, 3, 5, 4), (SIXTY, SIXTY - 1, 1, 299), (10 ** 59, 10 ** 59 + 1, 13, 23), (7, 9, 4, 30)]:
            layers = corner_layers(a, b, c, t)
            self.assertEqual(len(layers), c * t + 1)
            self.assertEqual(sum(layers), corner_points(a, b, c, t))
            if a < 10 ** 10:
                self.assertEqual(layers, tuple(
                    triangle_points(b * c, c * a, a * b * c * t - a * b * z) for z in range(c * t + 1)))

    def test_limit_of_layers(self):
        self.assertEqual(len(corner_layers(2, 3, 23, 13)), 300)
        self.assertEqual(len(corner_layers(2, 3, 299, 1)), 300)
        self.assertEqual(len(corner_layers(SIXTY, SIXTY - 1, 1, 299)), 300)
        for a, b, c, t in [(2, 3, 1, 300), (3, 7, 100, 3), (2, 3, SIXTY - 2, 1), (1, 1, 1, SIXTY), (7, 1, 300, 1)]:
            self.assert_too_many(300, corner_layers, a, b, c, t)
        # Behind the word "then": a box that is none comes before the limit.
        self.assert_not_allowed(corner_layers, 2, 4, 301, 1)
        self.assert_no_number(0, corner_layers, 0, 1, 301, 1)
        self.assert_no_number(-1, corner_layers, 2, 4, 301, -1)

    def test_wrong_arguments(self):
        for call in CORNERS:
            for value in [-1, -SIXTY, *not_integers()]:
                self.assert_no_number(value, call, 2, 3, 5, value)
                # Behind the word "then": a wrong size comes before a common factor.
                self.assert_no_number(value, call, 2, 4, 5, value)
            for value in [0, -1, -SIXTY, *not_integers()]:
                self.assert_no_number(value, call, value, 3, 5, 1)
                self.assert_no_number(value, call, value, 0, "c", None)
                self.assert_no_number(value, call, 2, value, 5, 1)
                self.assert_no_number(value, call, 2, value, True, -1)
                self.assert_no_number(value, call, 2, 3, value, 1)
                self.assert_no_number(value, call, 2, 4, value, -1)
            for at in range(4):
                arguments = [2, 3, 5, 1]
                arguments[at] = SIXTY_ONE
                self.assert_no_number(SIXTY_ONE, call, *arguments)

    def test_wrong_boxes_of_polynomials(self):
        for value in [0, -1, -SIXTY, SIXTY_ONE, *not_integers()]:
            self.assert_no_number(value, corner_polynomial, value, 3, 5)
            self.assert_no_number(value, corner_polynomial, value, "b", 0)
            self.assert_no_number(value, corner_polynomial, 2, value, "c")
            self.assert_no_number(value, corner_polynomial, 2, 4, value)

    def test_not_coprime(self):
        for box in [(2, 4, 1), (2, 1, 4), (1, 2, 4), (2, 2, 2), (6, 35, 10), (SIXTY, 3, 1), (15, 2, 9), (3, 3, 1)]:
            for call in CORNERS:
                self.assert_not_allowed(call, *box, 1)
                self.assert_not_allowed(call, *box, 0)
            self.assert_not_allowed(corner_polynomial, *box)


if __name__ == "__main__":
    unittest.main()
