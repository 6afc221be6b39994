"""The errors: their names, base classes and what they keep."""

import unittest

from toothchain import errors

MADE_WITH_A_MESSAGE = {
    "ToothError": ValueError,
    "InvalidRatio": errors.ToothError,
    "InvalidTurn": errors.ToothError,
    "InvalidWord": errors.ToothError,
    "InvalidName": errors.ToothError,
    "InvalidOperation": errors.ToothError,
    "ZeroDivisor": ZeroDivisionError,
}

KEEPING = {
    "ParseError": (errors.ToothError, "at"),
    "InvalidNumber": (IndexError, "given"),
    "UnknownName": (KeyError, "wanted"),
    "NothingToUndo": (LookupError, "many"),
    "TooMany": (OverflowError, "limit"),
    "Refused": (ArithmeticError, "claim"),
}

KEPT_VALUES = [
    0, 7, -1, 10 ** 899, True, None, "", "name", "two\nlines", (), ("zero", "a"), [1, [2]], {"a": 1},
]


class ErrorTests(unittest.TestCase):
    def test_direct_base_classes(self):
        for name, base in MADE_WITH_A_MESSAGE.items():
            self.assertEqual(getattr(errors, name).__bases__, (base,), name)
        for name, (base, _) in KEEPING.items():
            self.assertEqual(getattr(errors, name).__bases__, (base,), name)

    def test_defined_in_their_module(self):
        for name in [*MADE_WITH_A_MESSAGE, *KEEPING]:
            self.assertEqual(getattr(errors, name).__module__, "toothchain.errors")
            self.assertEqual(getattr(errors, name).__name__, name)

    def test_made_with_a_message(self):
        for name in MADE_WITH_A_MESSAGE:
            error = getattr(errors, name)("some words")
            self.assertEqual(str(error), "some words")

    def test_keep_the_argument(self):
        for name, (_, attribute) in KEEPING.items():
            for value in KEPT_VALUES:
                error = getattr(errors, name)(value)
                self.assertIs(getattr(error, attribute), value, name)

    def test_can_be_raised_and_caught_by_their_bases(self):
        for name, base in MADE_WITH_A_MESSAGE.items():
            with self.assertRaises(base):
                raise getattr(errors, name)("some words")
        for name, (base, attribute) in KEEPING.items():
            with self.assertRaises(base) as caught:
                raise getattr(errors, name)((1, 2))
            self.assertEqual(getattr(caught.exception, attribute), (1, 2))

    def test_messages_are_texts_for_every_kept_value(self):
        for name in KEEPING:
            for value in [*KEPT_VALUES, 10 ** 9000]:
                self.assertIsInstance(str(getattr(errors, name)(value)), str)


if __name__ == "__main__":
    unittest.main()
