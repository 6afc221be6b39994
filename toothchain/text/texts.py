"""Texts of numbers, turns and chains, and what is read from them."""

from toothchain.base.integers import Long, integer_from, integer_text
from toothchain.base.ratios import fraction_text, ratio_of, terms_of
from toothchain.errors import InvalidOperation, InvalidTurn, ParseError
from toothchain.sums.chains import are_rows
from toothchain.turns.turns import Turn

_BETWEEN = "; "


def write_number(number):
    """The text of a number."""
    top, bottom = terms_of(number)
    return fraction_text(top, bottom)


def write_turn(turn):
    """The text of a turn."""
    if not isinstance(turn, Turn):
        raise InvalidTurn("this is no turn")
    return str(turn)


def write_chain(rows):
    """The text of a chain."""
    if not are_rows(rows):
        raise InvalidOperation("a chain has 1 to 2000 rows of four integers of at most eight hundred digits")
    return _BETWEEN.join([" ".join([integer_text(one) for one in row]) for row in rows])


def read_number(text):
    """The ratio with this text."""
    _check_text(text)
    terms = terms_from(text)
    if terms is None:
        raise ParseError(0)
    number = ratio_of(terms[0], terms[1])
    if str(number) != text:
        raise ParseError(None)
    return number


def read_turn(text):
    """The turn with this text."""
    rows = _rows_from(text, 2)
    if len(rows) != 2:
        raise ParseError(None)
    (p, q), (r, t) = rows
    try:
        return Turn(Long(p), Long(q), Long(r), Long(t))
    except InvalidTurn:
        raise ParseError(None) from None


def read_chain(text):
    """The rows with this text."""
    rows = _rows_from(text, 4)
    if not are_rows(rows):
        raise ParseError(None)
    return rows


def terms_from(text):
    """Numerator and denominator in the text of a number, which need not be in lowest terms; None if it is none."""
    upper, sign, lower = text.partition("/")
    top, bottom = integer_from(upper), integer_from(lower) if sign else 1
    if top is None or bottom is None or bottom < 1:
        return None
    return top, bottom


def _check_text(text):
    if not isinstance(text, str):
        raise ParseError(None)


def _rows_from(text, width):
    """The integers in the pieces of the text, or an error for the first piece that has another form."""
    _check_text(text)
    rows = []
    for at, piece in enumerate(text.split(_BETWEEN)):
        row = tuple([integer_from(word) for word in piece.split(" ")])
        if len(row) != width or None in row:
            raise ParseError(at)
        rows.append(row)
    return tuple(rows)
