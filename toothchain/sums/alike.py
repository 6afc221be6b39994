"""Pairs whose sums are 0, equal, or alike after the point when taken twelve times."""

from math import gcd

from toothchain.base.integers import checked_from, checked_integer, checked_pair
from toothchain.base.ratios import terms_of, unreduced_ratio
from toothchain.errors import InvalidOperation, TooMany
from toothchain.sums.teeth import sum_top

MAX_CLASSES = 300


def twelfths(a, b):
    """Twelve times the sum of a pair."""
    first, second = checked_pair(a, b)
    return unreduced_ratio(sum_top(first, second), second)


def is_zero_sum(a, b):
    """Whether the sum of a pair is 0."""
    first, second = checked_pair(a, b)
    return _divides_square_and_one(first, second)


def has_whole_twelfths(a, b):
    """Whether twelve times the sum of a pair is an integer."""
    first, second = checked_pair(a, b)
    return _divides_square_and_one(first, second)


def have_like_rests(a, c, b):
    """Whether twelve times the difference of both sums is an integer."""
    first, second, bottom = _checked_likes(a, c, b)
    return (first - second) * (first * second - 1) % bottom == 0


def have_equal_sums(a, c, b):
    """Whether both sums are equal."""
    first, second, bottom = _checked_likes(a, c, b)
    difference, product = (first - second) % bottom, (first * second - 1) % bottom
    if difference == 0 or product == 0:
        return True
    # Equal sums have like rests [5.2], and these are known sooner than a sum.
    return difference * product % bottom == 0 and sum_top(first, bottom) == sum_top(second, bottom)


def sum_classes(b):
    """The integers below b that are coprime to it, grouped by equal sums."""
    return _classes_of(_coprime_tops(_checked_limit(b)))


def rest_classes(b):
    """The integers below b that are coprime to it, grouped by sums whose twelvefold differs by an integer."""
    bottom = _checked_limit(b)
    return _classes_of({a: top % bottom for a, top in _coprime_tops(bottom).items()})


def who_has(b, wish):
    """The integers below b that are coprime to it and have this sum."""
    bottom, wish_top, wish_bottom = _checked_wish(b, wish)
    wanted, rest = divmod(12 * bottom * wish_top, wish_bottom)
    if rest != 0:
        return ()
    # By [0.11] what is wanted leaves the same remainder as a and its inverse together.
    shift = wanted % bottom
    likely = [a for a in range(bottom) if (a * (shift - a) - 1) % bottom == 0]
    return tuple([a for a in likely if sum_top(a, bottom) == wanted])


def nearest(b, wish):
    """The integers below b that are coprime to it and whose sums are nearest to the number."""
    bottom, wish_top, wish_bottom = _checked_wish(b, wish)
    wanted = 12 * bottom * wish_top
    distances = {a: abs(top * wish_bottom - wanted) for a, top in _coprime_tops(bottom).items()}
    least = min(list(distances.values()))
    return tuple([a for a, distance in distances.items() if distance == least])


def zeros(b):
    """The integers below b that are coprime to it and have the sum 0."""
    bottom = _checked_limit(b)
    return tuple([a for a in range(bottom) if (a * a + 1) % bottom == 0])


def _divides_square_and_one(a, b):
    """What [5.1] says of sums that are 0, for the pair in lowest terms."""
    common = gcd(a, b)
    top, bottom = a // common, b // common
    return (top * top + 1) % bottom == 0


def _checked_likes(a, c, b):
    first, second, bottom = checked_integer(a), checked_integer(c), checked_from(1, b)
    if gcd(first, bottom) != 1 or gcd(second, bottom) != 1:
        raise InvalidOperation("only integers that are coprime to the last one are compared")
    return first, second, bottom


def _checked_limit(b):
    bottom = checked_from(1, b)
    if bottom > MAX_CLASSES:
        raise TooMany(MAX_CLASSES)
    return bottom


def _checked_wish(b, wish):
    """The integer b and the terms of the wish, both of which have the right form before the limit counts."""
    checked_from(1, b)
    top, bottom = terms_of(wish)
    return _checked_limit(b), top, bottom


def _coprime_tops(b):
    """12 b s(a, b), an integer, for each a below b that is coprime to it, under these integers."""
    known = {}
    for a in range(b):
        if a not in known and gcd(a, b) == 1:
            top = sum_top(a, b)
            # By [0.11]; the sum is the same for the inverse, and the opposite for the opposites.
            inverse = (top - a) % b
            known[a] = known[inverse] = top
            known[-a % b] = known[-inverse % b] = -top
    return {a: known[a] for a in range(b) if a in known}


def _classes_of(keys):
    """The integers, grouped by the equal keys under them."""
    classes = {}
    for a, key in keys.items():
        classes.setdefault(key, []).append(a)
    return tuple(sorted([tuple(members) for members in classes.values()]))
