"""Benches: pairs under names, and pins, which hold at all times."""

from toothchain.base.integers import checked_from, checked_integer, checked_pair, is_short_integer
from toothchain.base.ladders import inverse_or_none
from toothchain.base.ratios import Ratio
from toothchain.errors import InvalidName, InvalidNumber, InvalidOperation, NothingToUndo, Refused, TooMany, UnknownName
from toothchain.sums.chains import lowest_pair
from toothchain.sums.teeth import sum_of

MAX_PAIRS = 8
MAX_PINS = 8

_MAX_LETTERS = 8

# How many arguments each change takes.
_CHANGES = {
    "enter": 3, "remove": 1, "shift_pair": 2, "negate_pair": 1, "reduce_pair": 1, "invert_pair": 1,
    "exchange_pair": 1, "pin": 1, "unpin": 1,
}


class Bench:
    """Pairs under names and pins about them, with all that they were before."""

    def __init__(self):
        self._pairs = {}
        self._sums = {}
        self._pins = ()
        self._past = []
        self._future = []

    @property
    def pairs(self):
        """The pairs, under their names."""
        return dict(self._pairs)

    @property
    def sums(self):
        """The values, under their names."""
        return dict(self._sums)

    @property
    def pins(self):
        """The pins, in the order in which they were added."""
        return self._pins

    def enter(self, name, a, b):
        """Add or replace a pair."""
        if not is_name(name):
            raise InvalidName("a name has one to eight letters from a to z")
        return self._put(name, checked_pair(a, b))

    def remove(self, name):
        """Remove a pair."""
        self._pair_of(name)
        pairs = {one: pair for one, pair in self._pairs.items() if one != name}
        sums = {one: value for one, value in self._sums.items() if one != name}
        return self._change(pairs, sums, self._pins)

    def shift_pair(self, name, times):
        """Add the second integer of a pair so many times to the first one."""
        a, b = self._pair_of(name)
        first = a + checked_integer(times) * b
        if not is_short_integer(first):
            raise InvalidNumber(first)
        return self._put(name, (first, b))

    def negate_pair(self, name):
        """Replace the first integer of a pair by its opposite."""
        a, b = self._pair_of(name)
        return self._put(name, (-a, b))

    def reduce_pair(self, name):
        """Replace a pair by the one in lowest terms."""
        return self._put(name, lowest_pair(self._pair_of(name)))

    def invert_pair(self, name):
        """Replace the first integer of a pair by its inverse."""
        a, b = self._pair_of(name)
        inverse = inverse_or_none(a, b)
        if inverse is None:
            raise InvalidOperation("only coprime integers have an inverse")
        return self._put(name, (inverse, b))

    def exchange_pair(self, name):
        """Exchange both integers of a pair."""
        a, b = self._pair_of(name)
        if a < 1:
            raise InvalidOperation("only a first integer of at least 1 can be exchanged")
        return self._put(name, (b, a))

    def pin(self, pin):
        """Add a pin."""
        if not _is_pin(pin, self._pairs) or pin in self._pins:
            raise InvalidOperation("this is no new pin about names that are there")
        return self._change(self._pairs, self._sums, self._pins + (pin,))

    def unpin(self, pin):
        """Remove a pin."""
        if not _is_pin(pin, self._pairs) or pin not in self._pins:
            raise InvalidOperation("this is no pin that is there")
        return self._change(self._pairs, self._sums, tuple([one for one in self._pins if one != pin]))

    def trial(self, *changes):
        """What these changes would return, one after the other."""
        if not all([_is_change(change) for change in changes]):
            raise InvalidOperation("a change is the name of a method and its arguments")
        other = self.twin()
        return tuple([made_change(other, change) for change in changes])

    def undo(self, *, many=1):
        """Take the last changes back."""
        old = self._sums
        for _ in range(_checked_many(many, self._past)):
            self._future.append(self._state())
            self._set_state(self._past.pop())
        return _news(old, self._sums)

    def redo(self, *, many=1):
        """Make the changes again that were taken back last."""
        old = self._sums
        for _ in range(_checked_many(many, self._future)):
            self._past.append(self._state())
            self._set_state(self._future.pop())
        return _news(old, self._sums)

    def twin(self):
        """An equal bench with an equal history that goes on by itself."""
        other = Bench()
        other._set_state(self._state())
        other._past = list(self._past)
        other._future = list(self._future)
        return other

    def _pair_of(self, name):
        if not isinstance(name, str) or name not in self._pairs:
            raise UnknownName(name)
        return self._pairs[name]

    def _put(self, name, pair):
        pairs = {**self._pairs, name: pair}
        sums = {**self._sums, name: sum_of(pair[0], pair[1])}
        names = sorted(pairs)
        return self._change({one: pairs[one] for one in names}, {one: sums[one] for one in names}, self._pins)

    def _change(self, pairs, sums, pins):
        _check_state(pairs, sums, pins)
        old = self._sums
        self._past.append(self._state())
        self._future = []
        self._set_state((pairs, sums, pins))
        return _news(old, sums)

    # The parts of a state are never modified, only replaced; so states can share them.
    def _state(self):
        return self._pairs, self._sums, self._pins

    def _set_state(self, state):
        self._pairs, self._sums, self._pins = state

    def __getitem__(self, at):
        return self._pair_of(at)

    def __contains__(self, x):
        return isinstance(x, str) and x in self._pairs

    def __iter__(self):
        return iter(self._pairs)

    def __len__(self):
        return len(self._pairs)

    def __eq__(self, other):
        return isinstance(other, Bench) and self._pairs == other._pairs and self._pins == other._pins

    def __str__(self):
        return f"bench of {len(self._pairs)} pairs, {len(self._pins)} pins"


def is_name(value):
    """Whether the value is a name."""
    if not isinstance(value, str) or not 1 <= len(value) <= _MAX_LETTERS:
        return False
    return value.isascii() and value.isalpha() and value.islower()


def made_change(bench, change):
    """Make the change, and return what it returns."""
    word, *rest = change
    if word == "enter":
        return bench.enter(rest[0], rest[1], rest[2])
    if word == "shift_pair":
        return bench.shift_pair(rest[0], rest[1])
    if word == "remove":
        return bench.remove(rest[0])
    if word == "negate_pair":
        return bench.negate_pair(rest[0])
    if word == "reduce_pair":
        return bench.reduce_pair(rest[0])
    if word == "invert_pair":
        return bench.invert_pair(rest[0])
    if word == "exchange_pair":
        return bench.exchange_pair(rest[0])
    return bench.pin(rest[0]) if word == "pin" else bench.unpin(rest[0])


def _is_pin(value, pairs):
    """Whether the value is a pin about names that are there."""
    if not isinstance(value, tuple) or not 2 <= len(value) <= 3 or not _is_there(value[1], pairs):
        return False
    if len(value) == 2:
        return value[0] == "zero"
    if value[0] in ("least", "most"):
        return isinstance(value[2], Ratio) or is_short_integer(value[2])
    return value[0] in ("equal", "like") and _is_there(value[2], pairs) and value[1] != value[2]


def _is_there(value, pairs):
    return isinstance(value, str) and value in pairs


def _names_in(pin):
    return pin[1:] if pin[0] in ("equal", "like") else pin[1:2]


def _holds(pin, sums):
    value = sums[pin[1]]
    if pin[0] == "zero":
        return value == 0
    if pin[0] == "least":
        return value.compare(pin[2]) >= 0
    if pin[0] == "most":
        return value.compare(pin[2]) <= 0
    difference = value - sums[pin[2]]
    return difference == 0 if pin[0] == "equal" else (difference * 12).is_whole


def _check_state(pairs, sums, pins):
    for pin in pins:
        for name in _names_in(pin):
            if name not in pairs:
                raise InvalidOperation("a pin needs this name")
    if len(pairs) > MAX_PAIRS:
        raise TooMany(MAX_PAIRS)
    if len(pins) > MAX_PINS:
        raise TooMany(MAX_PINS)
    for pin in pins:
        if not _holds(pin, sums):
            raise Refused(pin)


def _news(old, new):
    """What changed between two dicts of values."""
    names = sorted({**old, **new})
    return tuple([(name, old.get(name), new.get(name)) for name in names if old.get(name) != new.get(name)])


def _checked_many(many, steps):
    wanted = checked_from(0, many)
    if wanted > len(steps):
        raise NothingToUndo(many)
    return wanted


def _is_change(value):
    if not isinstance(value, tuple) or not value or not isinstance(value[0], str):
        return False
    return value[0] in _CHANGES and len(value) == _CHANGES[value[0]] + 1
