"""A shell: a bench that is asked and changed by texts."""

from toothchain.base.integers import integer_from, is_short_integer
from toothchain.base.ladders import Ladder
from toothchain.bench.bench import Bench, is_name, made_change
from toothchain.errors import InvalidNumber, InvalidOperation, NothingToUndo, ParseError, Refused, TooMany, UnknownName
from toothchain.sums.chains import chain_certificate
from toothchain.text.texts import read_number, write_chain, write_number
from toothchain.turns.turns import is_word, word_turn

_EMPTY = "none"

# The methods of a bench that these commands call.
_CHANGES = {
    "enter": "enter", "remove": "remove", "shift": "shift_pair", "negate": "negate_pair", "reduce": "reduce_pair",
    "invert": "invert_pair", "exchange": "exchange_pair", "pin": "pin", "unpin": "unpin",
}

# The kinds of the words that may follow the first one, and may also be missing.
_FORMS = {
    "enter": (("name", "integer", "integer"),),
    "remove": (("name",),),
    "shift": (("name", "integer"),),
    "negate": (("name",),),
    "reduce": (("name",),),
    "invert": (("name",),),
    "exchange": (("name",),),
    "undo": ((), ("integer",)),
    "redo": ((), ("integer",)),
    "sum": (("name",),),
    "sums": ((),),
    "chain": (("name",),),
    "ladder": (("name",),),
    "phi": (("word",),),
    "psi": (("word",),),
    "show": (("name",),),
    "list": ((),),
}

# The kinds of the words that follow the first one of a pin.
_PIN_FORMS = {
    "zero": ("name",),
    "least": ("name", "number"),
    "most": ("name", "number"),
    "equal": ("name", "name"),
    "like": ("name", "name"),
}


class Shell:
    """A bench that answers commands."""

    def __init__(self):
        self._bench = Bench()
        self._answered = []

    def __call__(self, command):
        parts = _parts_of(command)
        if parts is None:
            return "what"
        try:
            answer = _answer(self._bench, parts[0], parts[1:])
        except UnknownName as error:
            return f"unknown {error.wanted}"
        except Refused as error:
            return f"refused {_pin_text(error.claim)}"
        except TooMany as error:
            return f"many {error.limit}"
        except NothingToUndo as error:
            return f"nothing {error.many}"
        except (InvalidOperation, InvalidNumber):
            return "no"
        self._answered.append(command)
        return answer

    def bench(self):
        """A twin of the bench."""
        return self._bench.twin()

    def __len__(self):
        return len(self._answered)

    def __str__(self):
        return f"shell of {len(self._answered)} commands"


def _parts_of(command):
    """The first word of a command and the values of the others, or None if it has no form."""
    if not isinstance(command, str):
        return None
    words = command.split(" ")
    if words[0] in ("pin", "unpin"):
        pin = _pin_from(words[1:])
        return None if pin is None else (words[0], pin)
    for form in _FORMS.get(words[0], ()):
        values = _values_from(form, words[1:])
        if values is not None:
            return words[0], *values
    return None


def _pin_from(words):
    if not words or words[0] not in _PIN_FORMS:
        return None
    values = _values_from(_PIN_FORMS[words[0]], words[1:])
    return None if values is None else (words[0], *values)


def _values_from(form, words):
    """The values of the words, or None if they are not of these kinds."""
    if len(words) != len(form):
        return None
    values = tuple([_value_from(kind, word) for kind, word in zip(form, words)])
    return None if None in values else values


def _value_from(kind, word):
    if kind == "name":
        return word if is_name(word) else None
    if kind == "word":
        return word if word and is_word(word) else None
    if kind == "integer":
        number = integer_from(word)
        return number if is_short_integer(number) else None
    return _short_number_from(word)


def _short_number_from(word):
    try:
        number = read_number(word)
    except ParseError:
        return None
    return number if is_short_integer(number.top) and is_short_integer(number.bottom) else None


def _answer(bench, word, values):
    if word in _CHANGES:
        return _news_text(made_change(bench, (_CHANGES[word], *values)))
    many = values[0] if values else 1
    if word == "undo":
        return _news_text(bench.undo(many=many))
    if word == "redo":
        return _news_text(bench.redo(many=many))
    if word == "phi":
        return write_number(word_turn(values[0]).phi)
    if word == "psi":
        return write_number(word_turn(values[0]).psi)
    if word == "sums":
        return " ".join([f"{name}:{value}" for name, value in bench.sums.items()]) or _EMPTY
    if word == "list":
        return " ".join(list(bench)) or _EMPTY
    return _pair_answer(bench, word, values[0])


def _pair_answer(bench, word, name):
    """The answer to a question about one pair."""
    a, b = bench[name]
    if word == "sum":
        return write_number(bench.sums[name])
    if word == "chain":
        return write_chain(chain_certificate(a, b))
    return str(Ladder(a, b)) if word == "ladder" else f"{a} {b}"


def _news_text(news):
    return ", ".join([f"{name} {_value_text(old)} {_value_text(new)}" for name, old, new in news]) or _EMPTY


def _value_text(value):
    return "-" if value is None else write_number(value)


def _pin_text(pin):
    if len(pin) == 2 or isinstance(pin[2], str):
        return " ".join(pin)
    return f"{pin[0]} {pin[1]} {write_number(pin[2])}"
