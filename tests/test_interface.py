"""The names, arguments and places of the interface."""

import importlib
import inspect
import unittest

FUNCTIONS = {
    "toothchain.base.ratios": {"total": "(numbers)"},
    "toothchain.base.ladders": {
        "common_factor": "(a, b)", "inverse_of": "(a, b)", "are_coprime": "(a, b)", "pair_from": "(quotients)",
    },
}

CLASSES = {
    "toothchain.errors": {
        "ToothError": None, "InvalidRatio": None, "InvalidTurn": None, "InvalidWord": None, "InvalidName": None,
        "InvalidOperation": None, "ParseError": None, "InvalidNumber": None, "UnknownName": None,
        "NothingToUndo": None, "TooMany": None, "Refused": None, "ZeroDivisor": None,
    },
    "toothchain.base.ratios": {"Ratio": "(top, bottom=1)"},
    "toothchain.base.ladders": {"Ladder": "(a, b)"},
}

METHODS = {
    ("toothchain.base.ratios", "Ratio"): {
        "compare": "(self, other)", "over": "(self, other)", "power": "(self, exponent)",
        "__add__": None, "__radd__": None, "__sub__": None, "__rsub__": None, "__mul__": None, "__rmul__": None,
        "__neg__": None, "__abs__": None, "__eq__": None, "__bool__": None, "__str__": None,
    },
    ("toothchain.base.ladders", "Ladder"): {
        "shifted": "(self, times)", "exchanged": "(self)",
        "__getitem__": None, "__iter__": None, "__len__": None, "__eq__": None, "__str__": None,
    },
}

PROPERTIES = {
    ("toothchain.base.ratios", "Ratio", (3, 4)): ("top", "bottom", "floor", "part", "is_whole"),
    ("toothchain.base.ladders", "Ladder", (3, 4)): (
        "a", "b", "quotients", "remainders", "common", "convergents", "coprime_inverse", "alternating",
    ),
}


class InterfaceTests(unittest.TestCase):
    def test_functions(self):
        for module, functions in FUNCTIONS.items():
            for name, signature in functions.items():
                function = vars(importlib.import_module(module))[name]
                self.assertTrue(inspect.isfunction(function), name)
                self.assertEqual(function.__module__, module)
                self.assertEqual(str(inspect.signature(function)), signature)

    def test_classes(self):
        for module, classes in CLASSES.items():
            for name, signature in classes.items():
                found = vars(importlib.import_module(module))[name]
                self.assertTrue(inspect.isclass(found), name)
                self.assertEqual(found.__module__, module)
                if signature:
                    self.assertEqual(str(inspect.signature(found)), signature)

    def test_methods_stand_in_the_class_itself(self):
        for (module, name), methods in METHODS.items():
            body = vars(vars(importlib.import_module(module))[name])
            for method, signature in methods.items():
                self.assertTrue(inspect.isfunction(body[method]), method)
                if signature:
                    self.assertEqual(str(inspect.signature(body[method])), signature)

    def test_properties(self):
        for (module, name, arguments), properties in PROPERTIES.items():
            found = vars(importlib.import_module(module))[name]
            for attribute in properties:
                self.assertIn(attribute, vars(found))
                self.assertTrue(hasattr(found(*arguments), attribute))


if __name__ == "__main__":
    unittest.main()
