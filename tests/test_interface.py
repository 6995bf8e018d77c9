"""The section "The interface": names, arguments and where they are defined."""

import importlib
import inspect
import unittest

from pairedaway.benches import Bench, RightBench
from pairedaway.consoles import Console

FUNCTIONS = {
    "words": {"machine_error": "value", "is_of": "machine word", "each_word": "machine length"},
    "weighing": {
        "sign_of": "signs word", "weight_of": "weights word", "count": "machine length", "signed": "machine signs length",
        "unlike": "one signs other others", "spread": "machine signs weights length",
        "unlike_spread": "one first other second",
    },
    "recurrences": {"recurrence": "machine signs"},
    "rules": {"rule_error": "letters value", "change": "rule word"},
    "verdicts": {
        "fault": "kind signs rule", "unkept": "kind weights rule", "minus_left": "kind signs rule",
        "fewest_drop": "kind signs rule",
    },
    "lefts": {"left_of": "kind rule", "left_holds": "kind rule value"},
    "machines": {
        "smallest": "machine", "both": "one other", "either": "one other", "less": "one other", "apart": "one other",
    },
    "ways": {"partner": "kind signs one other word"},
    "texts": {"scheme_error": "value", "scheme_text": "scheme", "parse_scheme": "value"},
}
BOUNDS = {
    "MAX_LETTERS": 4, "MAX_STATES": 8, "MAX_ROWS": 400, "MAX_PAIRS": 6, "MAX_WINDOW": 3, "MAX_LENGTH": 400,
    "MAX_STEPS": 10000, "MAX_EDITS": 60, "BATCH": 20,
}
METHODS = {
    "__init__": "kind signs rule=()", "add": "pair", "drop": "index", "change": "index pair", "lift": "index", "turn": "index",
    "drop_fewest": "", "undo": "", "redo": "", "attempt": "edits *watch=None", "verdict": "", "changed": "word",
    "signed": "length", "left": "length", "state": "*version=None", "edits": "",
}
SIGNS = ("__getitem__", "__setitem__", "__iadd__", "__isub__", "__len__", "__str__", "__eq__")


def parameters(function):
    """The parameters of a function, those behind a star with one ahead of them, with default values."""
    found = []
    for name, parameter in inspect.signature(function).parameters.items():
        star = "*" if parameter.kind == parameter.KEYWORD_ONLY else ""
        default = "" if parameter.default is parameter.empty else f"={parameter.default!r}"
        found.append(star + name + default)
    return " ".join(name for name in found if name != "self")


class InterfaceTest(unittest.TestCase):
    def test_functions(self):
        for place, functions in FUNCTIONS.items():
            module = importlib.import_module(f"pairedaway.{place}")
            for name, names in functions.items():
                function = getattr(module, name)
                self.assertTrue(inspect.isfunction(function))
                self.assertEqual((function.__module__, function.__name__), (f"pairedaway.{place}", name))
                self.assertEqual(parameters(function), names)

    def test_bounds(self):
        module = importlib.import_module("pairedaway.bounds")
        for name, number in BOUNDS.items():
            self.assertEqual(getattr(module, name), number)
            self.assertIs(type(getattr(module, name)), int)

    def test_bench(self):
        for name, names in METHODS.items():
            self.assertIn(name, vars(Bench))
            self.assertEqual(parameters(vars(Bench)[name]), names)
        for name in SIGNS:
            self.assertIn(name, vars(Bench))
        self.assertEqual(vars(Bench)["MOST_EDITS"], 60)
        self.assertEqual((Bench.__module__, RightBench.__module__), ("pairedaway.benches",) * 2)
        self.assertEqual(RightBench.__mro__, (RightBench, Bench, object))
        self.assertEqual(parameters(vars(RightBench)["__init__"]), METHODS["__init__"])

    def test_attributes_are_there_at_once(self):
        for made in (Bench, RightBench):
            bench = made((1, ((0,),), (True,)), "+")
            self.assertEqual((bench.kind, bench.signs, bench.rule), ((1, ((0,),), (True,)), "+", ()))

    def test_console(self):
        self.assertEqual(Console.__module__, "pairedaway.consoles")
        self.assertEqual(parameters(vars(Console)["__init__"]), "bench")
        self.assertEqual(parameters(vars(Console)["execute"]), "line")

    def test_package_binds_nothing_else(self):
        package = importlib.import_module("pairedaway")
        self.assertEqual(package.__name__, "pairedaway")
        self.assertTrue(package.__file__.endswith("__init__.py"))


if __name__ == "__main__":
    unittest.main()
