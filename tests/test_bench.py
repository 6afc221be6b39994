"""Benches: what changes do, which are refused, and what is taken back and made again."""

import unittest
from fractions import Fraction

from tests.plain import exact, exchanged_sum
from tests.samples import SIXTY, SIXTY_ONE, Refusals, not_integers, not_numbers, strings
from toothchain.base.ladders import Ladder
from toothchain.base.ratios import Ratio
from toothchain.bench.bench import MAX_PAIRS, MAX_PINS, Bench
from toothchain.errors import (
    InvalidName, InvalidNumber, InvalidOperation, NothingToUndo, Refused, TooMany, UnknownName,
)

NAMES = ["a", "z", "one", "abcdefgh", "eightlet"]
NO_NAMES = ["\u00e9", "\u00df", "na\u00efve", "\u03b1", "", "A", "aB", "a1", "a b", " a", "a ", "abcdefghi", "x" * 2000, "a-b", "a\n", "_", "1", *(
    value for value in not_integers() if value != "a")]
LETTERS = "abcdefgh"


def made(*pairs):
    """A bench with the pairs under `a`, `b`, and so on."""
    bench = Bench()
    for name, (a, b) in zip(LETTERS, pairs):
        bench.enter(name, a, b)
    return bench


def look(bench):
    """All that can be seen of a bench but for its history."""
    return bench.pairs, bench.sums, bench.pins, list(bench), len(bench), str(bench)


def news(*rows):
    """News with the sums of pairs in the place of ratios."""
    return tuple((name, *[None if pair is None else exchanged_sum(*pair) for pair in pairs]) for name, *pairs in rows)


def as_fractions(found):
    return tuple((name, *[None if one is None else exact(one) for one in values]) for name, *values in found)


class Benches(unittest.TestCase, Refusals):
    def assert_news(self, found, *rows):
        self.assertIs(type(found), tuple)
        for one in found:
            self.assertEqual((type(one), len(one)), (tuple, 3))
            self.assertTrue({type(value) for value in one[1:]} <= {Ratio, type(None)})
        self.assertEqual(as_fractions(found), news(*rows))

    def assert_no_effect(self, kind, bench, call, *arguments, **keywords):
        """The call is refused, and neither the bench nor its history changes."""
        before, twin = look(bench), bench.twin()
        error = self.assert_refused(kind, call, *arguments, **keywords)
        self.assertEqual(look(bench), before)
        self.assert_same_history(bench.twin(), twin)
        return error

    def assert_same_history(self, one, other):
        self.assertTrue(one == other)
        while self.can_undo(one):
            self.assertEqual(one.undo(), other.undo())
            self.assertEqual(look(one), look(other))
        self.assert_refused(NothingToUndo, other.undo)
        while self.can_redo(one):
            self.assertEqual(one.redo(), other.redo())
            self.assertEqual(look(one), look(other))
        self.assert_refused(NothingToUndo, other.redo)

    def can_undo(self, bench):
        return self.works(bench.twin().undo)

    def can_redo(self, bench):
        return self.works(bench.twin().redo)

    def works(self, call):
        try:
            call()
        except NothingToUndo:
            return False
        return True


class PairTests(Benches):
    def test_empty_benches(self):
        bench = Bench()
        self.assertEqual(look(bench), ({}, {}, (), [], 0, "bench of 0 pairs, 0 pins"))
        self.assertTrue(bench == Bench())

    def test_entering(self):
        bench = Bench()
        self.assert_news(bench.enter("two", 2, 3), ("two", None, (2, 3)))
        self.assert_news(bench.enter("one", 1, 3), ("one", None, (1, 3)))
        self.assert_news(bench.enter("one", 1, 5), ("one", (1, 3), (1, 5)))
        # Another pair with the same sum is no news.
        self.assert_news(bench.enter("one", 6, 5))
        self.assertEqual((bench["one"], bench["two"]), ((6, 5), (2, 3)))
        self.assertEqual((list(bench.pairs.items()), list(bench)), ([("one", (6, 5)), ("two", (2, 3))], ["one", "two"]))
        self.assertEqual({name: exact(one) for name, one in bench.sums.items()},
                         {"one": exchanged_sum(6, 5), "two": exchanged_sum(2, 3)})
        self.assertEqual({type(one) for one in bench.sums.values()}, {Ratio})

    def test_names_ascend(self):
        bench = Bench()
        for name in ["m", "b", "z", "aa", "a", "mm"]:
            bench.enter(name, 1, 3)
        self.assertEqual(list(bench), ["a", "aa", "b", "m", "mm", "z"])
        self.assertEqual([list(bench.pairs), list(bench.sums)], [list(bench)] * 2)
        bench.remove("b")
        bench.undo()
        bench.negate_pair("aa")
        self.assertEqual([list(bench), list(bench.pairs), list(bench.sums)], [["a", "aa", "b", "m", "mm", "z"]] * 3)

    def test_names(self):
        for name in NAMES:
            bench = Bench()
            bench.enter(name, 0, 1)
            self.assertEqual((bench[name], name in bench), ((0, 1), True))
        bench = made((1, 3))
        for name in NO_NAMES:
            self.assert_no_effect(InvalidName, bench, bench.enter, name, 1, 3)
            # A wrong name comes before a wrong pair.
            self.assert_no_effect(InvalidName, bench, bench.enter, name, "a", 0)
            self.assertIs(name in bench, False)

    def test_wrong_pairs(self):
        bench = made((1, 3))
        self.assert_pair_is_checked(lambda a, b: bench.enter("b", a, b))
        self.assert_no_number(SIXTY_ONE, bench.enter, "b", SIXTY_ONE, 1)
        self.assert_no_number(SIXTY_ONE, bench.enter, "b", 1, SIXTY_ONE)
        self.assertEqual(look(bench), look(made((1, 3))))

    def test_removing(self):
        bench = made((1, 3), (0, 5))
        self.assert_news(bench.remove("b"), ("b", (0, 5), None))
        self.assert_news(bench.remove("a"), ("a", (1, 3), None))
        self.assertEqual(look(bench), look(Bench()))

    def test_changing_pairs(self):
        bench = made((10, 24))
        for call, arguments, pair in [
            (bench.shift_pair, (2,), (58, 24)), (bench.shift_pair, (-3,), (-14, 24)), (bench.shift_pair, (0,), (-14, 24)),
            (bench.reduce_pair, (), (-7, 12)), (bench.negate_pair, (), (7, 12)), (bench.exchange_pair, (), (12, 7)),
            (bench.invert_pair, (), (3, 7)), (bench.reduce_pair, (), (3, 7)), (bench.exchange_pair, (), (7, 3)),
            (bench.shift_pair, (10 ** 50,), (7 + 3 * 10 ** 50, 3)), (bench.invert_pair, (), (1, 3)),
        ]:
            old = bench["a"]
            found = call("a", *arguments)
            self.assertEqual(bench["a"], pair)
            changed = exchanged_sum(*old) != exchanged_sum(*pair)
            self.assert_news(found, *[("a", old, pair)] * changed)
            self.assertEqual(exact(bench.sums["a"]), exchanged_sum(*pair))

    def test_edges_of_changes(self):
        bench = made((0, 12), (5, 1), (0, 1))
        self.assertEqual([bench.reduce_pair("a"), bench["a"]], [(), (0, 1)])
        self.assertEqual([bench.invert_pair("b"), bench["b"]], [(), (0, 1)])
        self.assertEqual([bench.negate_pair("c"), bench["c"]], [(), (0, 1)])
        # Integers with a common factor can be exchanged.
        bench.enter("a", 4, 6)
        bench.exchange_pair("a")
        self.assertEqual(bench["a"], (6, 4))

    def test_changes_that_are_not_allowed(self):
        bench = made((2, 4), (0, 1), (-3, 5), (0, 3))
        for name in "ad":
            self.assert_no_effect(InvalidOperation, bench, bench.invert_pair, name)
        for name in "bcd":
            self.assert_no_effect(InvalidOperation, bench, bench.exchange_pair, name)

    def test_unknown_names(self):
        bench = made((1, 3))
        calls = [bench.remove, bench.negate_pair, bench.reduce_pair, bench.invert_pair, bench.exchange_pair,
                 lambda name: bench[name], lambda name: bench.shift_pair(name, 1),
                 lambda name: bench.shift_pair(name, "times")]
        for name in ["b", "A", "", "abcdefghi", *NO_NAMES]:
            for call in calls:
                error = self.assert_no_effect(UnknownName, bench, call, name)
                self.assertIs(error.wanted, name)

    def test_wrong_times(self):
        bench = made((1, 3))
        for times in [SIXTY_ONE, *not_integers()]:
            self.assert_no_number(times, bench.shift_pair, "a", times)
        self.assertEqual(look(bench), look(made((1, 3))))

    def test_integers_that_grow_too_long(self):
        bench = made((SIXTY, 1), (0, SIXTY), (-SIXTY, 5))
        bench.pin(("zero", "a"))
        for name, times, first in [("a", 1, SIXTY_ONE), ("b", 2, 2 * SIXTY), ("b", -2, -2 * SIXTY), ("c", -1, -SIXTY - 5),
                                   ("b", SIXTY, SIXTY * SIXTY)]:
            error = self.assert_no_effect(InvalidNumber, bench, bench.shift_pair, name, times)
            self.assertEqual(error.given, first)
        self.assertEqual((bench.shift_pair("b", 1), bench["b"]), ((), (SIXTY, SIXTY)))
        self.assertEqual((bench.shift_pair("a", -2), bench["a"]), ((), (SIXTY - 2, 1)))

    def test_eight_pairs(self):
        self.assertEqual((MAX_PAIRS, MAX_PINS), (8, 8))
        bench = made(*[(k, 9) for k in range(8)])
        self.assertEqual(len(bench), 8)
        error = self.assert_no_effect(TooMany, bench, bench.enter, "i", 1, 3)
        self.assertEqual(error.limit, 8)
        # Behind the word "then": wrong arguments come before the limit, and replacing is no new name.
        self.assert_no_effect(InvalidName, bench, bench.enter, "I", 1, 3)
        self.assert_no_number(0, bench.enter, "i", 1, 0)
        bench.enter("h", 1, 3)
        bench.remove("a")
        bench.enter("i", 1, 3)
        self.assertEqual(len(bench), 8)


class PinTests(Benches):
    def test_pins_that_hold_and_do_not(self):
        third, just = exchanged_sum(1, 3), Fraction(1, 10 ** 59)
        bench = made((1, 3), (0, 5), (2, 3), (10, 9), (5, 8), (1, 8))
        below, above = Ratio(1, 18) - Ratio(1, 10 ** 59), Ratio(1, 18) + Ratio(1, 10 ** 59)
        self.assertEqual((third, exact(above) - third), (Fraction(1, 18), just))
        for pin, holds in [
            (("zero", "b"), True), (("zero", "a"), False), (("zero", "c"), False),
            (("least", "a", Ratio(1, 18)), True), (("least", "a", below), True), (("least", "a", above), False),
            (("least", "b", 0), True), (("least", "b", -1), True), (("least", "b", 1), False),
            (("most", "a", Ratio(1, 18)), True), (("most", "a", above), True), (("most", "a", below), False),
            (("most", "c", 0), True), (("most", "c", -1), False), (("most", "b", Ratio(0)), True),
            (("equal", "a", "a"), None), (("equal", "a", "c"), False), (("equal", "b", "a"), False),
            (("equal", "a", "d"), exchanged_sum(10, 9) == third), (("like", "e", "f"), True), (("like", "f", "e"), True),
            (("equal", "e", "f"), False), (("like", "a", "b"), False), (("like", "a", "a"), None),
        ]:
            if holds is None:
                self.assert_no_effect(InvalidOperation, bench, bench.pin, pin)
            elif holds:
                self.assertEqual(bench.pin(pin), ())
                self.assertEqual(bench.pins, (pin,))
                self.assertEqual(bench.unpin(pin), ())
            else:
                error = self.assert_no_effect(Refused, bench, bench.pin, pin)
                self.assertEqual(error.claim, pin)
            self.assertEqual(bench.pins, ())

    def test_order_of_pins(self):
        bench = made((0, 5), (1, 3))
        pins = [("most", "b", 1), ("zero", "a"), ("least", "b", Ratio(1, 18)), ("least", "a", 0)]
        for pin in pins:
            bench.pin(pin)
        self.assertEqual((bench.pins, str(bench)), (tuple(pins), "bench of 2 pairs, 4 pins"))
        bench.unpin(pins[1])
        self.assertEqual(bench.pins, (pins[0], *pins[2:]))
        bench.pin(pins[1])
        self.assertEqual(bench.pins, (pins[0], *pins[2:], pins[1]))

    def test_equal_numbers_make_equal_pins(self):
        bench = made((1, 14), (0, 3))
        bench.pin(("least", "b", 0))
        for number in (0, Ratio(0), Ratio(0, 7)):
            self.assert_no_effect(InvalidOperation, bench, bench.pin, ("least", "b", number))
        bench.pin(("most", "b", 0))
        bench.unpin(("least", "b", Ratio(0, 3)))
        bench.pin(("least", "a", Ratio(13, 14)))
        self.assertEqual(bench.pins, (("most", "b", 0), ("least", "a", Ratio(26, 28))))
        self.assert_no_effect(InvalidOperation, bench, bench.unpin, ("least", "a", Ratio(13, 15)))
        bench.unpin(("least", "a", Ratio(26, 28)))
        self.assertEqual(bench.pins, (("most", "b", Ratio(0)),))

    def test_other_orders_of_names_make_other_pins(self):
        bench = made((1, 5), (6, 5))
        bench.pin(("equal", "a", "b"))
        self.assert_no_effect(InvalidOperation, bench, bench.unpin, ("equal", "b", "a"))
        bench.pin(("equal", "b", "a"))
        bench.pin(("like", "a", "b"))
        self.assertEqual(len(bench.pins), 3)

    def test_values_that_are_no_pins(self):
        bench = made((0, 1), (0, 5))
        bench.pin(("zero", "a"))
        wrong = [
            (), ("zero",), ("zero", "a", "b"), ("zero", "a", 0), ("least", "a"), ("most", "a"), ("least", "a", "b"),
            ("equal", "a"), ("like", "a"), ("equal", "a", 0), ("like", "a", "a"), ("equal", "b", "b"), ("other", "a"),
            ("zero", "c"), ("zero", "A"), ("least", "c", 0), ("equal", "a", "c"), ("equal", "c", "a"), ("like", "a", "c"),
            ["zero", "b"], ("least", "a", 0, 0), ("equal", "a", "b", "c"), (("zero",), "a"), ("zero", ["a"]),
            ("equal", "a", ["b"]), ("least", "a", True), ("least", "a", False), ("most", "b", None), "zero a", ("a", "zero"),
            ("Zero", "a"), (True, "a"), ("least", ("a",), 0), *strings(), *not_integers(),
        ]
        for value in wrong:
            self.assert_no_effect(InvalidOperation, bench, bench.pin, value)
            self.assert_no_effect(InvalidOperation, bench, bench.unpin, value)
        for number in not_numbers():
            self.assert_no_effect(InvalidOperation, bench, bench.pin, ("least", "b", number))
            self.assert_no_effect(InvalidOperation, bench, bench.pin, ("most", "b", number))
        # A ratio may hold longer integers.
        self.assertEqual(bench.pin(("most", "b", Ratio(SIXTY).power(2))), ())
        self.assertEqual(bench.pin(("least", "b", -SIXTY)), ())

    def test_true_is_no_number_of_a_pin(self):
        bench = made((0, 5))
        pins = [("least", "a", 0), ("most", "a", 1)]
        for pin in pins:
            bench.pin(pin)
        for value in [("least", "a", False), ("most", "a", True)]:
            self.assert_no_effect(InvalidOperation, bench, bench.unpin, value)
            self.assert_no_effect(InvalidOperation, bench, bench.pin, value)
        self.assertEqual(bench.pins, tuple(pins))

    def test_pins_that_are_there_or_not(self):
        bench = made((0, 1))
        self.assert_no_effect(InvalidOperation, bench, bench.unpin, ("zero", "a"))
        bench.pin(("zero", "a"))
        self.assert_no_effect(InvalidOperation, bench, bench.pin, ("zero", "a"))

    def test_eight_pins(self):
        bench = made((0, 1), (1, 3))
        for k in range(8):
            bench.pin(("least", "a", -k))
        self.assertEqual(len(bench.pins), 8)
        for pin in [("zero", "a"), ("zero", "b"), ("least", "a", -8)]:
            # The limit comes before a pin that does not hold.
            error = self.assert_no_effect(TooMany, bench, bench.pin, pin)
            self.assertEqual(error.limit, 8)
        # Behind the word "then": a value that is no new pin comes before the limit.
        for pin in [("zero", "c"), ("least", "a", 0), None]:
            self.assert_no_effect(InvalidOperation, bench, bench.pin, pin)
        bench.unpin(("least", "a", -3))
        bench.pin(("zero", "a"))
        self.assertEqual(bench.pins[-2:], (("least", "a", -7), ("zero", "a")))


class PinnedTests(Benches):
    def test_changes_that_break_pins(self):
        bench = made((1, 5), (6, 5), (0, 7), (5, 8), (1, 8))
        pins = [("least", "a", Ratio(1, 5)), ("equal", "a", "b"), ("most", "c", 0), ("like", "d", "e"), ("zero", "c")]
        for pin in pins:
            bench.pin(pin)
        for call, arguments, broken in [
            (bench.negate_pair, ("a",), 0), (bench.negate_pair, ("b",), 1), (bench.enter, ("a", 1, 3), 0),
            (bench.enter, ("b", 2, 5), 1), (bench.enter, ("c", 1, 3), 2), (bench.enter, ("c", 2, 3), 4),
            (bench.negate_pair, ("e",), 3), (bench.exchange_pair, ("d",), 3), (bench.enter, ("a", 1, 9), 1),
        ]:
            error = self.assert_no_effect(Refused, bench, call, *arguments)
            self.assertEqual(error.claim, pins[broken], arguments)
        self.assertEqual((bench.shift_pair("a", 7), bench.enter("c", 2, 5), bench.invert_pair("b")), ((), (), ()))

    def test_pins_need_their_names(self):
        bench = made((0, 5), (0, 3), (1, 3), (2, 5))
        bench.pin(("zero", "a"))
        bench.pin(("equal", "a", "b"))
        bench.pin(("most", "c", 1))
        for name in "abc":
            self.assert_no_effect(InvalidOperation, bench, bench.remove, name)
        bench.unpin(("equal", "a", "b"))
        self.assert_news(bench.remove("b"), ("b", (0, 3), None))
        bench.remove("d")
        # Pins about names that have gone are none.
        self.assert_no_effect(InvalidOperation, bench, bench.pin, ("zero", "b"))

    def test_each_name_of_a_pin_is_needed(self):
        for pin in [("zero", "a"), ("least", "a", -1), ("most", "a", 1), ("equal", "a", "b"), ("equal", "b", "a"), ("like", "a", "b"),
                    ("like", "b", "a")]:
            bench = made((0, 5), (0, 3), (0, 1))
            bench.pin(pin)
            for name in "abc":
                if name in pin:
                    self.assert_no_effect(InvalidOperation, bench, bench.remove, name)
            self.assert_news(bench.remove("c"), ("c", (0, 1), None))

    def test_order_of_errors_behind_then(self):
        bench = made((SIXTY, 1), *[(0, 3)] * 7)
        bench.pin(("zero", "a"))
        bench.pin(("zero", "b"))
        # Eight pairs: a ninth one is too many before any pin counts.
        self.assert_no_effect(TooMany, bench, bench.enter, "i", 1, 3)
        self.assertEqual(self.assert_no_effect(Refused, bench, bench.enter, "b", 1, 3).claim, ("zero", "b"))
        # A first integer of sixty-one digits counts before the pin.
        bench.enter("b", 0, SIXTY)
        self.assertEqual(self.assert_no_effect(InvalidNumber, bench, bench.shift_pair, "b", 2).given, 2 * SIXTY)


class TrialTests(Benches):
    def test_trials(self):
        bench = made((1, 3), (0, 5))
        bench.pin(("zero", "b"))
        bench.negate_pair("a")
        bench.undo()
        before, twin = look(bench), bench.twin()
        found = bench.trial(
            ("enter", "c", 1, 5), ("shift_pair", "c", 2), ("negate_pair", "a"), ("exchange_pair", "c"), ("pin", ("most", "a", 0)),
            ("invert_pair", "c"), ("reduce_pair", "c"), ("unpin", ("zero", "b")), ("remove", "b"), ("enter", "b", 2, 7),
        )
        self.assertEqual([as_fractions(one) for one in found], [
            news(("c", None, (1, 5))), (), news(("a", (1, 3), (-1, 3))), news(("c", (11, 5), (5, 11))), (),
            (), (), (), news(("b", (0, 5), None)), news(("b", None, (2, 7))),
        ])
        self.assertEqual(look(bench), before)
        self.assert_same_history(bench, twin)
        self.assertEqual((bench.trial(), type(found)), ((), tuple))

    def test_each_change_sees_those_before_it(self):
        bench = Bench()
        self.assertEqual(bench.trial(("enter", "a", 0, 1), ("pin", ("zero", "a")), ("unpin", ("zero", "a")),
                                     ("remove", "a"))[1:3], ((), ()))
        self.assert_no_effect(UnknownName, bench, bench.trial, ("enter", "a", 0, 1), ("remove", "a"), ("remove", "a"))
        for many in range(7, 10):
            changes = [("enter", "abcdefghij"[k], k, 9) for k in range(many)]
            if many <= 8:
                self.assertEqual(len(bench.trial(*changes)), many)
            else:
                self.assert_no_effect(TooMany, bench, bench.trial, *changes)

    def test_trials_that_fail(self):
        bench = made((1, 3))
        bench.pin(("least", "a", 0))
        good = ("shift_pair", "a", 1)
        for bad, kind in [
            (("enter", "A", 1, 3), InvalidName), (("remove", "x"), UnknownName), (("exchange_pair", "b"), UnknownName),
            (("invert_pair", "a"), None), (("negate_pair", "a"), Refused), (("pin", ("zero", "x")), InvalidOperation),
            (("enter", "b", 1, 0), InvalidNumber), (("remove", "a"), InvalidOperation),
        ]:
            for changes in ((bad,), (bad, good), (good, bad), (good, good, bad, ("remove", "nobody"))):
                if kind is None:
                    self.assertEqual(len(bench.trial(*changes[:2])), len(changes[:2]))
                else:
                    self.assert_no_effect(kind, bench, bench.trial, *changes)
        error = self.assert_no_effect(Refused, bench, bench.trial, good, ("negate_pair", "a"))
        self.assertEqual(error.claim, ("least", "a", 0))

    def test_forms_come_first(self):
        bench = made((1, 3))
        wrong = [
            (), ("enter",), ("enter", "b", 1), ("enter", "b", 1, 3, 5), ("remove",), ("remove", "a", "b"), ("shift_pair", "a"),
            ("shift_pair", "a", 1, 2), ("negate_pair",), ("pin",), ("pin", "zero", "a"), ("unpin",), ["remove", "a"],
            "remove", ("undo",), ("redo",), ("twin",), ("trial",), ("undo", 1), ("Enter", "b", 1, 3), ("shift", "a", 1),
            (None, "a"), (["remove"], "a"), (True,), ("__init__",), ("exchange_pair", "a", 1), *not_integers(),
        ]
        for value in wrong:
            self.assert_no_effect(InvalidOperation, bench, bench.trial, value)
            self.assert_no_effect(InvalidOperation, bench, bench.trial, ("shift_pair", "a", 1), value)
            # A change without the form comes before the errors of one that fails.
            self.assert_no_effect(InvalidOperation, bench, bench.trial, ("remove", "nobody"), value)


class HistoryTests(Benches):
    def full(self):
        """A bench, and what it looked like before and behind each of its changes."""
        bench = Bench()
        looks = [look(bench)]
        for change in [
            ("enter", "a", 1, 3), ("enter", "b", 4, 3), ("pin", ("equal", "a", "b")), ("shift_pair", "a", 0),
            ("unpin", ("equal", "a", "b")), ("negate_pair", "b"), ("exchange_pair", "a"), ("remove", "b"), ("enter", "c", 2, 9),
            ("reduce_pair", "c"), ("invert_pair", "c"), ("pin", ("least", "c", -1)),
        ]:
            getattr(bench, change[0])(*change[1:])
            looks.append(look(bench))
        return bench, looks

    def between(self, old, new):
        names = sorted({*old[1], *new[1]})
        return tuple((name, old[1].get(name), new[1].get(name)) for name in names if old[1].get(name) != new[1].get(name))

    def test_one_by_one(self):
        bench, looks = self.full()
        for at in range(len(looks) - 1, 0, -1):
            self.assertEqual(bench.undo(), self.between(looks[at], looks[at - 1]))
            self.assertEqual(look(bench), looks[at - 1])
        for at in range(1, len(looks)):
            self.assertEqual(bench.redo(), self.between(looks[at - 1], looks[at]))
            self.assertEqual(look(bench), looks[at])

    def test_none_several_and_all(self):
        last = len(self.full()[1]) - 1
        for many in range(last + 1):
            bench, looks = self.full()
            self.assertEqual(bench.undo(many=many), self.between(looks[last], looks[last - many]))
            self.assertEqual(look(bench), looks[last - many])
            for again in (0, many // 2, many):
                twin = bench.twin()
                self.assertEqual(twin.redo(many=again), self.between(looks[last - many], looks[last - many + again]))
                self.assertEqual(look(twin), looks[last - many + again])

    def test_too_many(self):
        bench, looks = self.full()
        last = len(looks) - 1
        for many in (last + 1, last + 2, SIXTY):
            self.assertIs(self.assert_no_effect(NothingToUndo, bench, bench.undo, many=many).many, many)
        bench.undo(many=3)
        for many in (4, SIXTY):
            self.assertIs(self.assert_no_effect(NothingToUndo, bench, bench.redo, many=many).many, many)
        self.assertEqual(self.assert_refused(NothingToUndo, Bench().undo).many, 1)
        self.assertEqual(self.assert_refused(NothingToUndo, Bench().redo).many, 1)
        self.assertEqual((Bench().undo(many=0), Bench().redo(many=0)), ((), ()))

    def test_wrong_numbers(self):
        bench, _ = self.full()
        bench.undo(many=2)
        before = look(bench)
        for many in [-1, -SIXTY, SIXTY_ONE, *not_integers()]:
            self.assert_no_number(many, bench.undo, many=many)
            self.assert_no_number(many, bench.redo, many=many)
        self.assertEqual(look(bench), before)
        for call in (bench.undo, bench.redo):
            with self.assertRaises(TypeError):
                call(1)

    def test_redo_behind_another_change(self):
        for change in [("enter", "d", 1, 7), ("shift_pair", "a", 0), ("unpin", ("equal", "a", "b"))]:
            bench, _ = self.full()
            bench.undo(many=8)
            getattr(bench, change[0])(*change[1:])
            self.assert_refused(NothingToUndo, bench.redo)
            self.assertEqual(bench.redo(many=0), ())
            bench.undo()
            bench.redo()

    def test_refused_calls_and_trials_leave_redo(self):
        bench, looks = self.full()
        bench.undo(many=2)
        self.assert_no_effect(UnknownName, bench, bench.remove, "nobody")
        bench.trial(("enter", "d", 1, 7))
        bench.undo(many=0)
        bench.pairs, bench.sums, bench.pins, bench.twin()
        bench.redo(many=2)
        self.assertEqual(look(bench), looks[-1])

    def test_twins(self):
        bench, looks = self.full()
        bench.undo(many=2)
        twin = bench.twin()
        self.assertIs(type(twin), Bench)
        self.assert_same_history(bench.twin(), twin.twin())
        bench.enter("z", 1, 9)
        self.assertEqual(look(twin), looks[-3])
        twin.redo(many=2)
        self.assertEqual(look(twin), looks[-1])
        self.assert_refused(NothingToUndo, bench.redo)
        twin.undo(many=len(looks) - 1)
        self.assertEqual((look(twin), bench["z"]), (looks[0], (1, 9)))


class ValueTests(Benches):
    def test_equality(self):
        one, other = made((1, 3), (0, 5)), made((1, 3), (0, 5))
        self.assertTrue(one == other)
        self.assertFalse(one != other)
        # Histories do not count, the order of entering neither.
        other.negate_pair("a")
        self.assertTrue(one != other)
        other.negate_pair("a")
        self.assertTrue(one == other)
        third = Bench()
        third.enter("b", 0, 5)
        third.enter("a", 1, 3)
        self.assertTrue(one == third)
        self.assertFalse(one == made((4, 3), (0, 5)))
        self.assertFalse(one == made((1, 3)))
        # The order of pins does.
        for bench, pins in ((one, [("zero", "b"), ("least", "b", 0)]), (other, [("least", "b", Ratio(0)), ("zero", "b")])):
            for pin in pins:
                bench.pin(pin)
        self.assertTrue(one != other)
        other.unpin(("least", "b", 0))
        other.pin(("least", "b", 0))
        self.assertTrue(one == other)
        for value in not_integers():
            self.assertFalse(one == value)
            self.assertTrue(one != value)

    def test_names_in_a_bench(self):
        bench = made((1, 3), (0, 5))
        self.assertEqual((len(bench), list(bench), [*bench]), (2, ["a", "b"], ["a", "b"]))
        for value in ["c", "A", "", (1, 3), ("a",), *not_integers()]:
            self.assertIs(value in bench, value in ("a", "b"))

    def test_nothing_is_shared(self):
        bench = made((1, 3), (0, 5))
        bench.pin(("zero", "b"))
        before = look(bench)
        bench.pairs.clear()
        bench.pairs["a"] = (5, 7)
        bench.sums["a"] = Ratio(1)
        bench.sums.clear()
        self.assertEqual(look(bench), before)
        pairs = bench.pairs
        bench.enter("c", 1, 7)
        self.assertEqual(pairs, {"a": (1, 3), "b": (0, 5)})

    def test_texts(self):
        bench = Bench()
        texts = [str(bench)]
        bench.enter("a", 0, 1)
        texts.append(str(bench))
        bench.pin(("zero", "a"))
        texts.append(str(bench))
        self.assertEqual(texts, ["bench of 0 pairs, 0 pins", "bench of 1 pairs, 0 pins", "bench of 1 pairs, 1 pins"])

    def test_great_pairs(self):
        bench = made((SIXTY - 1, SIXTY), (-SIXTY, SIXTY - 1), (10 ** 59, 3 ** 125))
        for name, (a, b) in bench.pairs.items():
            self.assertEqual(exact(bench.sums[name]), exchanged_sum(a, b))
        self.assertEqual(Ladder(*bench["c"]).a, 10 ** 59)


if __name__ == "__main__":
    unittest.main()
