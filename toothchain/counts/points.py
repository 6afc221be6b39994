"""Points with integer coordinates in triangles and in the corners of boxes."""

from toothchain.base.integers import checked_from, checked_integer
from toothchain.base.ladders import check_coprime
from toothchain.base.ratios import ratio_of
from toothchain.counts.lines import floor_total
from toothchain.errors import TooMany
from toothchain.sums.teeth import sum_top

MAX_LAYERS = 300


def triangle_points(a, b, limit):
    """How many points with x and y of at least 0 have a x + b y <= limit."""
    first, second, most = _checked_triangle(a, b, limit)
    return points_up_to(first, second, most)


def triangle_inner(a, b, limit):
    """How many points with x and y of at least 1 have a x + b y < limit."""
    first, second, most = _checked_triangle(a, b, limit)
    return points_up_to(first, second, most - first - second - 1)


def triangle_row(a, b, limit):
    """How many points the triangle has for y = 0, 1, .. , as long as b y <= limit."""
    first, second, most = _checked_triangle(a, b, limit)
    # No row is there, and nothing is counted, for a limit below 0.
    entries = most // second + 1
    if entries > MAX_LAYERS:
        raise TooMany(MAX_LAYERS)
    return tuple([(most - second * y) // first + 1 for y in range(entries)])


def corner_points(a, b, c, t):
    """How many points the corner of size t has."""
    one, two, three, size = _checked_corner(a, b, c, t)
    return _corner_value(one, two, three, size)


def corner_inner(a, b, c, t):
    """How many points with x, y and z of at least 1 have x/a + y/b + z/c < t."""
    one, two, three, size = _checked_corner(a, b, c, t)
    # By [10.2]; but no point is in the empty inside of the size 0.
    return -_corner_value(one, two, three, -size) if size else 0


def corner_face(a, b, c, t):
    """How many points of the corner have x/a + y/b + z/c = t."""
    size = _checked_corner(a, b, c, t)[3]
    return (size + 1) * (size + 2) // 2


def corner_polynomial(a, b, c):
    """The four factors of 1, t, t t and t t t in the number of points of the corner of size t."""
    one, two, three = _checked_box(a, b, c)
    bottom = _corner_bottom(one, two, three)
    return tuple([ratio_of(top, bottom) for top in _corner_tops(one, two, three)])


def corner_layers(a, b, c, t):
    """How many points the corner has for z = 0, 1, .. , c t."""
    one, two, three, size = _checked_corner(a, b, c, t)
    entries = three * size + 1
    if entries > MAX_LAYERS:
        raise TooMany(MAX_LAYERS)
    most = one * two * three * size
    return tuple([points_up_to(two * three, three * one, most - one * two * z) for z in range(entries)])


def points_up_to(a, b, limit):
    """What `triangle_points` counts, for integers of any length."""
    if limit < 0:
        return 0
    rows, rest = limit // b + 1, limit % b
    # The row of y has one point more than the floor of (limit - b y)/a, from the last row on.
    return rows + floor_total(rows, b, rest, a)


def _checked_triangle(a, b, limit):
    return checked_from(1, a), checked_from(1, b), checked_integer(limit)


def _checked_box(a, b, c):
    one, two, three = checked_from(1, a), checked_from(1, b), checked_from(1, c)
    check_coprime(one, two, three)
    return one, two, three


def _checked_corner(a, b, c, t):
    one, two, three, size = checked_from(1, a), checked_from(1, b), checked_from(1, c), checked_from(0, t)
    check_coprime(one, two, three)
    return one, two, three, size


def _corner_bottom(a, b, c):
    return 12 * a * b * c


def _corner_tops(a, b, c):
    """The four factors of [10.2], times 12 a b c."""
    ab, bc, ca = a * b, b * c, c * a
    sums = bc * sum_top(bc, a) + ca * sum_top(ca, b) + ab * sum_top(ab, c)
    linear = 3 * a * bc * (a + b + c + 3) + bc * bc + ca * ca + ab * ab + 1 - sums
    return 12 * a * bc, linear, 3 * a * bc * (ab + bc + ca + 1), 2 * a * bc * a * bc


def _corner_value(a, b, c, t):
    """The value of the polynomial of [10.2] at t, an integer."""
    alone, linear, square, cube = _corner_tops(a, b, c)
    return (((cube * t + square) * t + linear) * t + alone) // _corner_bottom(a, b, c)
