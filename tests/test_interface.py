"""The names, arguments and places of the interface."""

import importlib
import inspect
import unittest

FUNCTIONS = {
    "toothchain.base.ratios": {"total": "(numbers)"},
    "toothchain.base.ladders": {
        "common_factor": "(a, b)", "inverse_of": "(a, b)", "are_coprime": "(a, b)", "pair_from": "(quotients)",
    },
    "toothchain.sums.teeth": {
        "tooth": "(number)", "bend": "(number)", "tooth_sum": "(a, b)", "tooth_row": "(a, b)", "greatest_sum": "(b)",
        "ladder_sum": "(a, b)",
    },
    "toothchain.sums.chains": {"chain_certificate": "(a, b)", "is_chain_certificate": "(a, b, value)"},
    "toothchain.sums.alike": {
        "twelfths": "(a, b)", "is_zero_sum": "(a, b)", "has_whole_twelfths": "(a, b)", "have_like_rests": "(a, c, b)",
        "have_equal_sums": "(a, c, b)", "sum_classes": "(b)", "rest_classes": "(b)", "who_has": "(b, wish)",
        "nearest": "(b, wish)", "zeros": "(b)",
    },
    "toothchain.sums.several": {
        "three_terms": "(a, b, c)", "three_total": "(a, b, c)", "divisors_of": "(number)", "divisor_sum": "(number)",
        "divisor_pairs": "(number, a, b)", "divisor_total": "(number, a, b)", "row_total": "(b, shift=0)",
    },
    "toothchain.turns.turns": {"word_turn": "(word)", "is_word": "(value)"},
    "toothchain.sums.shifts": {
        "shifted_sum": "(a, b, x, y)", "shifted_row": "(a, b, x, y)", "shifted_exchange": "(a, b, x, y)",
        "shifted_certificate": "(a, b, x, y)", "is_shifted_certificate": "(a, b, x, y, value)",
    },
    "toothchain.counts.lines": {
        name: "(n, a, c, m)" for name in (
            "line_sum", "line_moment", "line_square", "line_row", "whole_steps", "rest_total", "rest_square",
            "tooth_line",
        )
    },
    "toothchain.counts.points": {
        "triangle_points": "(a, b, limit)", "triangle_inner": "(a, b, limit)", "triangle_row": "(a, b, limit)",
        "corner_points": "(a, b, c, t)", "corner_inner": "(a, b, c, t)", "corner_face": "(a, b, c, t)",
        "corner_polynomial": "(a, b, c)", "corner_layers": "(a, b, c, t)",
    },
    "toothchain.counts.steps": {
        "reaches": "(a, b, number)", "ways": "(a, b, number)", "all_ways": "(a, b, number)", "gap_count": "(a, b)",
        "gap_total": "(a, b)", "last_gap": "(a, b)", "gaps_below": "(a, b, limit)", "gap_at": "(a, b, index)",
        "all_gaps": "(a, b)",
    },
    "toothchain.rows.mixing": {
        "flattest": "(modulus, addend=0)", "least_vector": "(multiplier, modulus)",
        "is_least_vector": "(multiplier, modulus, value)", "least_square": "(multiplier, modulus)",
    },
    "toothchain.sums.higher": {
        "bernoulli": "(index)", "bernoulli_value": "(index, number)", "higher_tooth": "(index, number)",
        "power_total": "(exponent, count)", "higher_sum": "(order, a, b)", "higher_exchange": "(order, a, b)",
        "higher_certificate": "(order, a, b)", "is_higher_certificate": "(order, a, b, value)",
    },
    "toothchain.text.texts": {
        "write_number": "(number)", "write_turn": "(turn)", "write_chain": "(rows)", "read_number": "(text)",
        "read_turn": "(text)", "read_chain": "(text)",
    },
}

CONSTANTS = {
    "toothchain.sums.teeth": {"MAX_PLAIN": 2000},
    "toothchain.sums.chains": {"MAX_ROWS": 2000, "MAX_DIGITS": 800},
    "toothchain.sums.alike": {"MAX_CLASSES": 300},
    "toothchain.sums.several": {"MAX_DIVIDED": 60},
    "toothchain.turns.turns": {"MAX_WORD": 400},
    "toothchain.counts.points": {"MAX_LAYERS": 300},
    "toothchain.counts.steps": {"MAX_LIST": 2000},
    "toothchain.rows.mixing": {"MAX_CYCLE": 2000},
    "toothchain.sums.higher": {"ORDERS": (1, 3, 5, 7, 9)},
    "toothchain.bench.bench": {"MAX_PAIRS": 8, "MAX_PINS": 8},
}

CLASSES = {
    "toothchain.errors": {
        "ToothError": None, "InvalidRatio": None, "InvalidTurn": None, "InvalidWord": None, "InvalidName": None,
        "InvalidOperation": None, "ParseError": None, "InvalidNumber": None, "UnknownName": None,
        "NothingToUndo": None, "TooMany": None, "Refused": None, "ZeroDivisor": None,
    },
    "toothchain.base.ratios": {"Ratio": "(top, bottom=1)"},
    "toothchain.base.ladders": {"Ladder": "(a, b)"},
    "toothchain.sums.chains": {"Walk": "(a, b)"},
    "toothchain.turns.turns": {"Turn": "(p, q, r, t)"},
    "toothchain.rows.mixing": {"MixingRow": "(multiplier, addend, modulus)"},
    "toothchain.bench.bench": {"Bench": "()"},
    "toothchain.text.shell": {"Shell": "()"},
}

METHODS = {
    ("toothchain.base.ratios", "Ratio"): {
        "compare": "(self, other)", "over": "(self, other)", "power": "(self, exponent)",
        "__add__": None, "__radd__": None, "__sub__": None, "__rsub__": None, "__mul__": None, "__rmul__": None,
        "__neg__": None, "__abs__": None, "__eq__": None, "__bool__": None, "__str__": None,
    },
    ("toothchain.base.ladders", "Ladder"): {
        "shifted": "(self, times)", "exchanged": "(self)",
        "__getitem__": None, "__iter__": None, "__len__": None, "__eq__": None, "__str__": None,
    },
    ("toothchain.sums.chains", "Walk"): {
        "shift": "(self, times=None)", "negate": "(self)", "invert": "(self)", "reduce": "(self)", "exchange": "(self)",
        "finish": "(self)", "certificate": "(self)", "undo": "(self, *, many=1)", "twin": "(self)",
        "__bool__": None, "__len__": None, "__eq__": None, "__str__": None,
    },
    ("toothchain.turns.turns", "Turn"): {
        "inverse": "(self)", "power": "(self, exponent)", "around": "(self, other)", "word": "(self)",
        "__mul__": None, "__neg__": None, "__eq__": None, "__str__": None,
    },
    ("toothchain.rows.mixing", "MixingRow"): {
        "after": "(self, x)", "before": "(self, x)", "then": "(self, other)", "inverse": "(self)",
        "repeated": "(self, times)", "cycle": "(self, x)", "pair_total": "(self)", "correlation": "(self)",
        "__eq__": None, "__str__": None,
    },
    ("toothchain.bench.bench", "Bench"): {
        "enter": "(self, name, a, b)", "remove": "(self, name)", "shift_pair": "(self, name, times)",
        "negate_pair": "(self, name)", "reduce_pair": "(self, name)", "invert_pair": "(self, name)",
        "exchange_pair": "(self, name)", "pin": "(self, pin)", "unpin": "(self, pin)", "trial": "(self, *changes)",
        "undo": "(self, *, many=1)", "redo": "(self, *, many=1)", "twin": "(self)",
        "__getitem__": None, "__contains__": None, "__iter__": None, "__len__": None, "__eq__": None, "__str__": None,
    },
    ("toothchain.text.shell", "Shell"): {
        "__call__": "(self, command)", "bench": "(self)", "__len__": None, "__str__": None,
    },
}

PROPERTIES = {
    ("toothchain.base.ratios", "Ratio", (3, 4)): ("top", "bottom", "floor", "part", "is_whole"),
    ("toothchain.base.ladders", "Ladder", (3, 4)): (
        "a", "b", "quotients", "remainders", "common", "convergents", "coprime_inverse", "alternating",
    ),
    ("toothchain.sums.chains", "Walk", (3, 4)): ("pair", "sign", "offset", "start", "steps", "result"),
    ("toothchain.turns.turns", "Turn", (3, 2, 1, 1)): ("rows", "trace", "phi", "psi"),
    ("toothchain.rows.mixing", "MixingRow", (5, 3, 8)): ("multiplier", "addend", "modulus", "is_full"),
    ("toothchain.bench.bench", "Bench", ()): ("pairs", "sums", "pins"),
}


class InterfaceTests(unittest.TestCase):
    def test_functions(self):
        for module, functions in FUNCTIONS.items():
            for name, signature in functions.items():
                function = vars(importlib.import_module(module))[name]
                self.assertTrue(inspect.isfunction(function), name)
                self.assertEqual(function.__module__, module)
                self.assertEqual(str(inspect.signature(function)), signature)

    def test_constants(self):
        for module, constants in CONSTANTS.items():
            for name, value in constants.items():
                found = vars(importlib.import_module(module))[name]
                self.assertEqual((found, type(found)), (value, type(value)), name)

    def test_classes(self):
        for module, classes in CLASSES.items():
            for name, signature in classes.items():
                found = vars(importlib.import_module(module))[name]
                self.assertTrue(inspect.isclass(found), name)
                self.assertEqual(found.__module__, module)
                if signature is not None:
                    self.assertEqual(str(inspect.signature(found)), signature)

    def test_methods_stand_in_the_class_itself(self):
        for (module, name), methods in METHODS.items():
            body = vars(vars(importlib.import_module(module))[name])
            for method, signature in methods.items():
                self.assertTrue(inspect.isfunction(body[method]), method)
                if signature:
                    self.assertEqual(str(inspect.signature(body[method])), signature)

    def test_properties(self):
        for (module, name, arguments), properties in PROPERTIES.items():
            found = vars(importlib.import_module(module))[name]
            for attribute in properties:
                self.assertIn(attribute, vars(found))
                self.assertTrue(hasattr(found(*arguments), attribute))


if __name__ == "__main__":
    unittest.main()
