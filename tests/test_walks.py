"""Walks: what each step does, what is kept, and how steps are taken back."""

import math
import random
import unittest

from tests.plain import exact, exchanged_sum
from tests.samples import (
    LARGE_PAIRS, LONGEST, SIXTY, SIXTY_ONE, SMALL_PAIRS, Refusals, not_integers, plain_wrong_values, random_pairs,
)
from toothchain.base.ladders import Ladder
from toothchain.base.ratios import Ratio
from toothchain.errors import NothingToUndo
from toothchain.sums.chains import Walk, is_chain_certificate
from toothchain.sums.teeth import tooth_sum

WORDS = ("shift", "negate", "invert", "reduce", "exchange")
PAIRS = [*SMALL_PAIRS[::3], *LARGE_PAIRS, LONGEST, LONGEST[::-1], *random_pairs(21, many=3)]


def state(walk):
    """All that can be seen of a walk."""
    return walk.pair, walk.sign, str(walk.offset), walk.start, walk.steps, str(walk.result), len(walk), str(walk)


def random_walk(a, b, seed, many=40):
    """A walk with steps of all kinds, and the pairs that it had."""
    source = random.Random(seed)
    walk, pairs = Walk(a, b), [(a, b)]
    while len(walk) < many:
        p, q = walk.pair
        word = source.choice(WORDS)
        if word == "shift":
            pairs.append(walk.shift(source.choice((None, *range(-9, 10)))))
        elif word in ("negate", "reduce") or math.gcd(p, q) == 1 and (word == "invert" or p >= 1):
            pairs.append(getattr(walk, word)())
    return walk, pairs


class StepTests(unittest.TestCase, Refusals):
    def test_start(self):
        for a, b in PAIRS:
            walk = Walk(a, b)
            self.assertEqual((walk.pair, walk.start, walk.sign, walk.steps), ((a, b), (a, b), 1, ()))
            self.assertEqual((type(walk.offset), walk.offset), (Ratio, 0))
            self.assertEqual(walk.result, None if a else 0)
            self.assertEqual((bool(walk), len(walk)), (a != 0, 0))

    def test_shift_by_the_remainder(self):
        for a, b in PAIRS:
            for keywords in ({}, {"times": None}):
                walk = Walk(a, b)
                self.assertEqual(walk.shift(**keywords), (a % b, b))
                self.assertEqual((walk.pair, walk.sign, walk.steps), ((a % b, b), 1, ("shift",)))

    def test_shift_by_times(self):
        for a, b in PAIRS:
            for times in range(-9, 10):
                walk = Walk(a, b)
                self.assertEqual(walk.shift(times), (a + times * b, b))
                self.assertEqual((walk.pair, walk.sign, walk.steps), ((a + times * b, b), 1, ("shift",)))

    def test_negate(self):
        for a, b in PAIRS:
            walk = Walk(a, b)
            self.assertEqual(walk.negate(), (-a, b))
            self.assertEqual((walk.pair, walk.sign, walk.steps), ((-a, b), -1, ("negate",)))
            self.assertEqual((walk.negate(), walk.sign, walk.steps), ((a, b), 1, ("negate", "negate")))

    def test_invert(self):
        for a, b in PAIRS:
            walk = Walk(a, b)
            if math.gcd(a, b) == 1:
                self.assertEqual(walk.invert(), (pow(a, -1, b), b))
                self.assertEqual((walk.pair[0], walk.sign, walk.steps), (pow(a, -1, b), 1, ("invert",)))
            else:
                self.assert_not_allowed(walk.invert)
                self.assertEqual(walk, Walk(a, b))

    def test_reduce(self):
        for a, b in PAIRS:
            common = math.gcd(a, b)
            walk = Walk(a, b)
            self.assertEqual(walk.reduce(), (a // common, b // common))
            self.assertEqual((walk.sign, walk.steps), (1, ("reduce",)))
        self.assertEqual(Walk(0, 12).reduce(), (0, 1))

    def test_exchange(self):
        for a, b in PAIRS:
            walk = Walk(a, b)
            if a >= 1 and math.gcd(a, b) == 1:
                self.assertEqual(walk.exchange(), (b, a))
                self.assertEqual((walk.pair, walk.sign, walk.steps), ((b, a), -1, ("exchange",)))
            else:
                self.assert_not_allowed(walk.exchange)
                self.assertEqual((walk, walk.steps), (Walk(a, b), ()))

    def test_kinds_of_values(self):
        walk = Walk(5, 12)
        for pair in (walk.exchange(), walk.shift(), walk.negate(), walk.invert(), walk.reduce(), walk.start, walk.undo()):
            self.assertEqual((type(pair), [*map(type, pair)]), (tuple, [int, int]))
        self.assertEqual((type(walk.steps), type(walk.sign), type(walk.offset)), (tuple, int, Ratio))

    def test_long_pairs(self):
        walk = Walk(SIXTY - 1, SIXTY)
        for _ in range(40):
            walk.shift(9)
            walk.exchange()
        self.assertGreater(walk.pair[0], 10 ** 95)
        p, q = walk.pair
        self.assertEqual(walk.invert(), (pow(p, -1, q), q))
        self.assertEqual(exact(walk.offset) + exchanged_sum(*walk.pair) * walk.sign, exchanged_sum(SIXTY - 1, SIXTY))


class LawTests(unittest.TestCase):
    """The second statement of [4.2], and what follows from it."""

    def test_sign_and_offset(self):
        for seed, (a, b) in enumerate(PAIRS):
            walk, _ = random_walk(a, b, seed)
            for _ in range(len(walk) + 1):
                self.assertEqual(exact(walk.offset) + walk.sign * exchanged_sum(*walk.pair), exchanged_sum(a, b))
                opposite = sum(word in ("negate", "exchange") for word in walk.steps)
                self.assertEqual(walk.sign, (-1) ** opposite)
                if len(walk):
                    walk.undo()

    def test_result(self):
        for seed, (a, b) in enumerate(PAIRS):
            walk, pairs = random_walk(a, b, seed)
            self.assertEqual(walk.result, tooth_sum(a, b) if pairs[-1][0] == 0 else None)
            walk.finish()
            self.assertIs(type(walk.result), Ratio)
            self.assertEqual((walk.result, walk.offset), (tooth_sum(a, b), tooth_sum(a, b)))

    def test_pairs(self):
        for seed, (a, b) in enumerate(PAIRS):
            walk, pairs = random_walk(a, b, seed)
            self.assertEqual((len(walk), len(walk.steps)), (40, 40))
            for pair in pairs[::-1]:
                self.assertEqual(walk.pair, pair)
                self.assertEqual(bool(walk), pair[0] != 0)
                if len(walk):
                    walk.undo()


class FinishTests(unittest.TestCase, Refusals):
    def words(self, p, q):
        """The words of the steps that the document asks for."""
        words = []
        while p:
            if math.gcd(p, q) > 1:
                words.append("reduce")
                p, q = p // math.gcd(p, q), q // math.gcd(p, q)
            elif 0 < p < q:
                words.append("exchange")
                p, q = q, p
            else:
                words.append("shift")
                p = p % q
        return tuple(words)

    def test_steps(self):
        for a, b in PAIRS:
            walk = Walk(a, b)
            many = walk.finish()
            self.assertEqual((walk.steps, many, type(many)), (self.words(a, b), len(walk), int))
            self.assertEqual((walk.pair[0], bool(walk)), (0, False))
            self.assertEqual((walk.finish(), len(walk)), (0, many))

    def test_steps_after_others(self):
        for seed, (a, b) in enumerate(PAIRS[::2]):
            walk, pairs = random_walk(a, b, seed)
            steps = walk.steps
            words = self.words(*pairs[-1])
            self.assertEqual((walk.finish(), walk.steps), (len(words), steps + words))

    def test_arrived(self):
        for b in (1, 7, SIXTY):
            walk = Walk(0, b)
            self.assertEqual((walk.finish(), walk.steps, walk.pair, walk.result), (0, (), (0, b), 0))

    def test_no_limit(self):
        walk = Walk(*LONGEST)
        self.assertGreater(walk.finish(), 500)
        self.assertEqual(walk.result, tooth_sum(*LONGEST))
        walk = Walk(*LONGEST)
        for _ in range(200):
            walk.negate()
        self.assertGreater(walk.finish(), 500)
        self.assertGreater(len(walk), 700)
        self.assertIs(is_chain_certificate(*LONGEST, walk.certificate()), True)


class CertificateTests(unittest.TestCase, Refusals):
    def test_one_row_for_each_pair(self):
        for seed, (a, b) in enumerate(PAIRS):
            walk, pairs = random_walk(a, b, seed)
            shorter = walk.twin()
            walk.finish()
            certificate = walk.certificate()
            self.assertEqual(len(certificate), len(walk) + 1)
            self.assertEqual([row[:2] for row in certificate[:len(pairs)]], pairs)
            self.assertIs(is_chain_certificate(a, b, certificate), True)
            if shorter:
                self.assert_not_allowed(shorter.certificate)

    def test_pairs_that_stay(self):
        walk = Walk(2, 5)
        for step in (walk.reduce, lambda: walk.shift(0), walk.shift, walk.shift, walk.finish, walk.negate, walk.shift):
            step()
        certificate = walk.certificate()
        self.assertEqual(len(certificate), len(walk) + 1)
        self.assertEqual([row[:2] for row in certificate[:5]], [(2, 5)] * 5)
        self.assertIs(is_chain_certificate(2, 5, certificate), True)

    def test_not_arrived(self):
        walk = Walk(5, 12)
        self.assert_not_allowed(walk.certificate)
        walk.exchange()
        self.assert_not_allowed(walk.certificate)
        self.assertEqual(walk.steps, ("exchange",))

    def test_two_hundred_steps_and_more(self):
        walk = Walk(*LONGEST)
        for _ in range(100):
            walk.shift(9)
            walk.exchange()
        self.assertGreater(walk.pair[0], 10 ** 150)
        walk.finish()
        certificate = walk.certificate()
        self.assertEqual(len(certificate), len(walk) + 1)
        self.assertIs(is_chain_certificate(*LONGEST, certificate), True)

    def test_sixty_digits_by_remainders_alone(self):
        for a, b in [LONGEST, *random_pairs(2, many=4)]:
            walk = Walk(a, b)
            walk.finish()
            self.assertLessEqual(len(walk.certificate()), 700)


class LimitTests(unittest.TestCase, Refusals):
    def full_walk(self, a=5, b=12):
        walk = Walk(a, b)
        for _ in range(100):
            walk.shift(1)
            walk.shift(-1)
        return walk

    def test_two_hundred_steps(self):
        walk = Walk(5, 12)
        for many in range(200):
            self.assertEqual(len(walk), many)
            walk.negate()
        for step in (walk.shift, walk.negate, walk.invert, walk.reduce, walk.exchange, lambda: walk.shift(3)):
            before = state(walk)
            self.assert_too_many(200, step)
            self.assertEqual(state(walk), before)
        walk.undo()
        self.assertEqual(walk.reduce(), (-5, 12))
        self.assert_too_many(200, walk.reduce)

    def test_more_than_two_hundred_steps(self):
        walk = Walk(*LONGEST)
        walk.finish()
        self.assertGreater(len(walk), 200)
        for step in (walk.shift, walk.negate, walk.invert, walk.reduce):
            self.assert_too_many(200, step)
        walk.undo(many=len(walk) - 199)
        walk.shift()
        self.assert_too_many(200, walk.shift)

    def test_other_errors_come_first(self):
        walk = self.full_walk()
        for times in (10, -10, "1", True, SIXTY):
            self.assert_no_number(times, walk.shift, times)
        walk = self.full_walk(4, 6)
        self.assert_not_allowed(walk.invert)
        self.assert_not_allowed(walk.exchange)
        self.assert_too_many(200, walk.reduce)
        for a, b in ((0, 1), (-5, 12), (0, 3)):
            self.assert_not_allowed(self.full_walk(a, b).exchange)
        self.assert_too_many(200, self.full_walk(1, 1).exchange)
        self.assertGreater(self.full_walk().finish(), 0)


class WrongArgumentTests(unittest.TestCase, Refusals):
    def test_pairs(self):
        self.assert_pair_is_checked(Walk)
        self.assert_no_number(SIXTY_ONE, Walk, SIXTY_ONE, 1)
        self.assert_no_number(SIXTY_ONE, Walk, 1, SIXTY_ONE)

    def test_times(self):
        walk = Walk(5, 12)
        for times in [10, -10, 100, SIXTY, -SIXTY, *[one for one in not_integers() if one is not None]]:
            self.assert_no_number(times, walk.shift, times)
            self.assert_no_number(times, walk.shift, times=times)
        self.assertEqual(state(walk), state(Walk(5, 12)))

    def test_exchanges_that_are_not_allowed(self):
        for a, b in [(0, 1), (0, 5), (-1, 5), (-5, 1), (2, 4), (6, 3), (-4, 6), (SIXTY, SIXTY)]:
            walk = Walk(a, b)
            self.assert_not_allowed(walk.exchange)
            self.assertEqual(state(walk), state(Walk(a, b)))

    def test_many(self):
        walk = Walk(5, 12)
        walk.finish()
        before = state(walk)
        for many in [-1, -SIXTY, *not_integers()]:
            self.assert_no_number(many, walk.undo, many=many)
        with self.assertRaises(TypeError):
            walk.undo(1)
        self.assertEqual(state(walk), before)


class UndoTests(unittest.TestCase, Refusals):
    def test_none_some_and_all(self):
        walk, pairs = random_walk(5, 12, 1, many=30)
        steps = walk.steps
        self.assertEqual((walk.undo(many=0), walk.steps), (pairs[-1], steps))
        self.assertEqual((walk.undo(), walk.steps), (pairs[-2], steps[:-1]))
        self.assertEqual((walk.undo(many=5), walk.steps), (pairs[-7], steps[:-6]))
        self.assertEqual((walk.undo(many=24), walk.steps, walk.pair), ((5, 12), (), (5, 12)))
        self.assertEqual(walk.undo(many=0), (5, 12))
        self.assertEqual(state(walk), state(Walk(5, 12)))

    def test_too_many(self):
        walk = Walk(5, 12)
        error = self.assert_refused(NothingToUndo, walk.undo)
        self.assertEqual(error.many, 1)
        walk.exchange()
        walk.shift()
        before = state(walk)
        for many in (3, 200, SIXTY):
            error = self.assert_refused(NothingToUndo, walk.undo, many=many)
            self.assertEqual(error.many, many)
        self.assertEqual(state(walk), before)
        self.assertEqual(walk.undo(many=2), (5, 12))

    def test_finish_is_taken_back_step_by_step(self):
        walk = Walk(10, 24)
        many = walk.finish()
        self.assertEqual(walk.undo(many=many - 1), (5, 12))
        self.assertEqual((walk.steps, walk.result), (("reduce",), None))

    def test_other_steps_afterwards(self):
        walk = Walk(5, 12)
        walk.negate()
        walk.shift()
        walk.undo(many=2)
        walk.exchange()
        self.assertEqual((walk.steps, walk.sign, walk.pair), (("exchange",), -1, (12, 5)))


class EqualityTests(unittest.TestCase):
    def test_twin(self):
        walk, _ = random_walk(5, 12, 4)
        twin = walk.twin()
        self.assertIs(type(twin), Walk)
        self.assertEqual(state(twin), state(walk))
        self.assertIs(twin == walk, True)
        before = state(walk)
        twin.negate()
        twin.undo(many=3)
        self.assertEqual(state(walk), before)
        self.assertIs(twin == walk, False)
        walk.undo(many=2)
        self.assertEqual(state(twin), state(walk))
        walk.undo(many=len(walk))
        self.assertEqual(len(twin), 38)
        self.assertEqual(twin.undo(many=38), (5, 12))

    def test_equal_pairs_at_all_times(self):
        one, other = Walk(5, 12), Walk(5, 12)
        self.assertIs(one == other, True)
        self.assertIs(one != other, False)
        one.shift(-1)
        self.assertIs(one == other, False)
        self.assertIs(one != other, True)
        other.shift(0)
        self.assertIs(one == other, False)
        other.shift(-1)
        one.shift(0)
        # Both are at the same pair after as many steps, but they came there on different ways.
        self.assertIs(one == other, False)
        self.assertIs(Walk(5, 12) == Walk(17, 12), False)
        self.assertIs(Walk(5, 12) == Walk(10, 24), False)

    def test_equal_pairs_by_different_steps(self):
        one, other = Walk(0, 1), Walk(0, 1)
        for step, another in (("negate", "invert"), ("reduce", "shift"), ("invert", "reduce")):
            getattr(one, step)()
            getattr(other, another)()
        self.assertNotEqual((one.steps, one.sign), (other.steps, other.sign))
        self.assertIs(one == other, True)

    def test_equal_to_nothing_else(self):
        walk = Walk(17, 12)
        for value in [*plain_wrong_values(), 17, (17, 12), ((17, 12),), [(17, 12)], Ladder(17, 12), Ratio(17, 12), Walk]:
            self.assertIs(walk == value, False)
            self.assertIs(value == walk, False)
            self.assertIs(walk != value, True)
            self.assertIs(value != walk, True)

    def test_no_iteration(self):
        with self.assertRaises(TypeError):
            iter(Walk(5, 12))

    def test_properties_are_not_assigned(self):
        walk = Walk(5, 12)
        for name in ("pair", "sign", "offset", "start", "steps", "result"):
            with self.assertRaises(AttributeError):
                setattr(walk, name, 1)

    def test_text(self):
        walk = Walk(5, 12)
        self.assertEqual(str(walk), "walk from 5/12: 0 steps, at 5/12")
        walk.exchange()
        self.assertEqual(str(walk), "walk from 5/12: 1 steps, at 12/5")
        walk.shift()
        self.assertEqual(str(walk), "walk from 5/12: 2 steps, at 2/5")
        walk.negate()
        self.assertEqual(str(walk), "walk from 5/12: 3 steps, at -2/5")
        self.assertEqual(str(Walk(-SIXTY, SIXTY)), f"walk from -{SIXTY}/{SIXTY}: 0 steps, at -{SIXTY}/{SIXTY}")


if __name__ == "__main__":
    unittest.main()
