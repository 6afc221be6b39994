"""What counts as an integer, the pairs that are passed, and integers as texts."""

from toothchain.errors import InvalidNumber

# The least integer above sixty digits. It also cuts long integers into pieces
# for their texts, because str() and int() refuse more than 4300 digits.
_TOO_LONG = 10 ** 60
_PIECE_DIGITS = 60

# The least integer above the eight hundred digits that one inside a passed
# certificate may have.
_TOO_LONG_INSIDE = (10 ** 50) ** 16


class Long:
    """An integer of any length that the package itself computed.

    The package passes it where a passed integer may have sixty digits only.
    """

    def __init__(self, number):
        self.number = number


def is_short_integer(value):
    """Whether the value is an integer that may be passed."""
    # Each argument comes here, so the words of is_any_integer stand here once more.
    return isinstance(value, int) and value is not True and value is not False and -_TOO_LONG < value < _TOO_LONG


def is_any_integer(value):
    """Whether the value is an integer, whatever its length."""
    return isinstance(value, int) and value is not True and value is not False


def is_inner_integer(value):
    """Whether the value is an integer that may stand inside a passed certificate."""
    return is_any_integer(value) and -_TOO_LONG_INSIDE < value < _TOO_LONG_INSIDE


def integer_of(value):
    """The integer that was passed, or None if the value is none."""
    if is_short_integer(value):
        return value
    return value.number if isinstance(value, Long) else None


def checked_integer(value):
    """The integer that was passed, or an error if the value is none."""
    if is_short_integer(value):
        return value
    if isinstance(value, Long):
        return value.number
    raise InvalidNumber(value)


def checked_from(least, value):
    """The integer that was passed, or an error if the value is none or a lesser one."""
    number = checked_integer(value)
    if number < least:
        raise InvalidNumber(value)
    return number


def checked_pair(a, b):
    """The two integers of the pair that was passed, or an error for the first wrong one."""
    # Nearly all pairs are plain ones, and these are told at once.
    if isinstance(a, int) and isinstance(b, int) and a is not True and a is not False and b is not True:
        if -_TOO_LONG < a < _TOO_LONG and 0 < b < _TOO_LONG:
            return a, b
    return checked_integer(a), checked_from(1, b)


def integer_text(number):
    """The decimal digits of an integer of any length, after `-` if it is negative."""
    rest = abs(number)
    pieces = []
    while rest >= _TOO_LONG:
        rest, piece = divmod(rest, _TOO_LONG)
        pieces.append(str(piece).zfill(_PIECE_DIGITS))
    pieces.append(str(rest))
    pieces.append("-" if number < 0 else "")
    return "".join(pieces[::-1])


def integer_from(text):
    """The integer of any length with this text, or None if there is none."""
    digits = text[1:] if text.startswith("-") else text
    if not digits.isascii() or not digits.isdigit():
        return None
    # No text begins with a 0, but for that of 0 itself.
    if digits.startswith("0") and text != "0":
        return None
    padded = digits.zfill(len(digits) + -len(digits) % _PIECE_DIGITS)
    number = 0
    for at in range(0, len(padded), _PIECE_DIGITS):
        number = number * _TOO_LONG + int(padded[at:at + _PIECE_DIGITS])
    return number if text == digits else -number
