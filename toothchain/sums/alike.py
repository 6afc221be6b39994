"""Pairs whose sums are 0, equal, or alike after the point when taken twelve times."""

from math import gcd

from toothchain.base.integers import checked_from, checked_integer, checked_pair
from toothchain.base.ratios import terms_of
from toothchain.errors import InvalidOperation, TooMany
from toothchain.sums.teeth import sum_of

MAX_CLASSES = 300


def twelfths(a, b):
    """Twelve times the sum of a pair."""
    first, second = checked_pair(a, b)
    return sum_of(first, second) * 12


def is_zero_sum(a, b):
    """Whether the sum of a pair is 0."""
    first, second = checked_pair(a, b)
    return _divides_square_and_one(first, second)


def has_whole_twelfths(a, b):
    """Whether twelve times the sum of a pair is an integer."""
    first, second = checked_pair(a, b)
    return _divides_square_and_one(first, second)


def have_like_rests(a, c, b):
    """Whether twelve times the difference of both sums is an integer."""
    first, second, bottom = _checked_likes(a, c, b)
    return (first - second) * (first * second - 1) % bottom == 0


def have_equal_sums(a, c, b):
    """Whether both sums are equal."""
    first, second, bottom = _checked_likes(a, c, b)
    return sum_of(first, bottom) == sum_of(second, bottom)


def sum_classes(b):
    """The integers below b that are coprime to it, grouped by equal sums."""
    return _classes_of(_coprime_sums(_checked_limit(b)))


def rest_classes(b):
    """The integers below b that are coprime to it, grouped by sums whose twelvefold differs by an integer."""
    sums = _coprime_sums(_checked_limit(b))
    return _classes_of({a: (one * 12).part for a, one in sums.items()})


def who_has(b, wish):
    """The integers below b that are coprime to it and have this sum."""
    sums = _coprime_sums(_checked_limit_beside(b, wish))
    return tuple([a for a, one in sums.items() if one == wish])


def nearest(b, wish):
    """The integers below b that are coprime to it and whose sums are nearest to the number."""
    sums = _coprime_sums(_checked_limit_beside(b, wish))
    distances = {a: abs(one - wish) for a, one in sums.items()}
    least = _least_of(list(distances.values()))
    return tuple([a for a, distance in distances.items() if distance == least])


def zeros(b):
    """The integers below b that are coprime to it and have the sum 0."""
    bottom = _checked_limit(b)
    return tuple([a for a in range(bottom) if (a * a + 1) % bottom == 0])


def _divides_square_and_one(a, b):
    """What [5.1] says of sums that are 0, for the pair in lowest terms."""
    common = gcd(a, b)
    top, bottom = a // common, b // common
    return (top * top + 1) % bottom == 0


def _checked_likes(a, c, b):
    first, second, bottom = checked_integer(a), checked_integer(c), checked_from(1, b)
    if gcd(first, bottom) != 1 or gcd(second, bottom) != 1:
        raise InvalidOperation("only integers that are coprime to the last one are compared")
    return first, second, bottom


def _checked_limit(b):
    bottom = checked_from(1, b)
    if bottom > MAX_CLASSES:
        raise TooMany(MAX_CLASSES)
    return bottom


def _checked_limit_beside(b, wish):
    # Both arguments have the right form before the limit counts.
    checked_from(1, b)
    terms_of(wish)
    return _checked_limit(b)


def _coprime_sums(b):
    """The sums of the integers below b that are coprime to it, under these integers."""
    return {a: sum_of(a, b) for a in range(b) if gcd(a, b) == 1}


def _classes_of(ratios):
    """The integers, grouped by the equal ratios under them."""
    classes = {}
    for a, one in ratios.items():
        classes.setdefault((one.top, one.bottom), []).append(a)
    return tuple(sorted([tuple(members) for members in classes.values()]))


def _least_of(ratios):
    least = ratios[0]
    for one in ratios:
        if one.compare(least) < 0:
            least = one
    return least
