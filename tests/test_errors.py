"""The error classes of pairedaway.errors: their fields and their bases."""

import unittest

from pairedaway import errors

FIELDS = {
    "BadText": "line",
    "BadScheme": "error",
    "BadRule": "error",
    "BadWord": "word",
    "BadLength": "length",
    "NotRight": "which",
    "NotLeft": "word",
    "Faulty": "fault",
    "BadEdit": "index",
    "Rejected": "index",
    "NoPair": "index",
    "NoVersion": "version",
}
BARE = ("TooFar", "TooGreat", "Busy", "TooManyEdits", "NothingToUndo", "NothingToRedo", "BadEdits")
LOOKUPS = ("NoPair", "NoVersion")
NAMES = ("PairError", *FIELDS, *BARE)

DEEP = []
for depth in range(20):
    DEEP = [DEEP]

VALUES = (
    None, True, False, 0, 1, -1, 10 ** 60 - 1, -(10 ** 59), "", "abc", "two\nlines", "x" * 3500,
    (), (1, 2), (None, "rule"), ("kind", "rows"), ("aab", "back"), [], [1, [2]], {}, {"a": [1]}, DEEP, tuple(range(6000)),
)


class FieldsTest(unittest.TestCase):
    def test_attribute_is_the_very_object(self):
        for name, field in FIELDS.items():
            for value in VALUES:
                with self.subTest(name=name, kind=type(value)):
                    self.assertIs(getattr(getattr(errors, name)(value), field), value)

    def test_field_is_also_passed_by_its_name(self):
        for name, field in FIELDS.items():
            value = [name]
            with self.subTest(name=name):
                self.assertIs(getattr(getattr(errors, name)(**{field: value}), field), value)

    def test_field_is_the_only_attribute(self):
        for name, field in FIELDS.items():
            with self.subTest(name=name):
                self.assertEqual(vars(getattr(errors, name)(7)), {field: 7})

    def test_field_must_be_passed(self):
        for name in FIELDS:
            with self.subTest(name=name), self.assertRaises(TypeError):
                getattr(errors, name)()
            with self.subTest(name=name), self.assertRaises(TypeError):
                getattr(errors, name)(1, 2)

    def test_value_is_not_changed(self):
        for name in FIELDS:
            value = [1, {"a": [2]}, (3,)]
            with self.subTest(name=name):
                error = getattr(errors, name)(value)
                self.assertIsInstance(str(error), str)
                self.assertEqual(value, [1, {"a": [2]}, (3,)])

    def test_two_errors_are_apart(self):
        for name, field in FIELDS.items():
            first, second = getattr(errors, name)("first"), getattr(errors, name)("second")
            with self.subTest(name=name):
                self.assertEqual([getattr(first, field), getattr(second, field)], ["first", "second"])

    def test_those_without_fields(self):
        for name in ("PairError", *BARE):
            with self.subTest(name=name):
                self.assertEqual(vars(getattr(errors, name)()), {})

    def test_each_is_raised_and_caught_as_itself(self):
        for name in NAMES:
            kind = getattr(errors, name)
            made = kind(5) if name in FIELDS else kind()
            with self.subTest(name=name), self.assertRaises(kind) as caught:
                raise made
            self.assertIs(caught.exception, made)


class BasesTest(unittest.TestCase):
    def test_names_of_the_classes(self):
        for name in NAMES:
            with self.subTest(name=name):
                kind = getattr(errors, name)
                self.assertIsInstance(kind, type)
                self.assertEqual((kind.__name__, kind.__module__), (name, "pairedaway.errors"))

    def test_nothing_else_is_there(self):
        found = [name for name, thing in vars(errors).items() if isinstance(thing, type)]
        self.assertEqual(sorted(found), sorted(NAMES))

    def test_pair_error_is_a_value_error(self):
        self.assertEqual(errors.PairError.__bases__, (ValueError,))

    def test_pair_error_is_the_base_of_all_but_two(self):
        for name in NAMES:
            if name != "PairError" and name not in LOOKUPS:
                with self.subTest(name=name):
                    self.assertEqual(getattr(errors, name).__bases__, (errors.PairError,))

    def test_two_are_lookup_errors_and_no_value_errors(self):
        for name in LOOKUPS:
            with self.subTest(name=name):
                self.assertEqual(getattr(errors, name).__bases__, (LookupError,))
                self.assertFalse(issubclass(getattr(errors, name), ValueError))

    def test_no_other_is_a_lookup_error(self):
        for name in NAMES:
            if name not in LOOKUPS:
                with self.subTest(name=name):
                    self.assertFalse(issubclass(getattr(errors, name), LookupError))

    def test_none_derives_from_another_one(self):
        for name in NAMES:
            for other in NAMES:
                if other not in (name, "PairError"):
                    with self.subTest(name=name, other=other):
                        self.assertFalse(issubclass(getattr(errors, name), getattr(errors, other)))


if __name__ == "__main__":
    unittest.main()
