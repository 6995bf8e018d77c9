"""The numbers of pairedaway.bounds."""

import unittest

from pairedaway import bounds

NUMBERS = {
    "MAX_LETTERS": 4,
    "MAX_STATES": 8,
    "MAX_ROWS": 400,
    "MAX_PAIRS": 6,
    "MAX_WINDOW": 3,
    "MAX_LENGTH": 400,
    "MAX_STEPS": 10000,
    "MAX_EDITS": 60,
    "BATCH": 20,
}


class BoundsTest(unittest.TestCase):
    def test_each_number(self):
        for name, number in NUMBERS.items():
            with self.subTest(name=name):
                self.assertEqual(getattr(bounds, name), number)

    def test_each_is_a_plain_integer(self):
        for name in NUMBERS:
            with self.subTest(name=name):
                self.assertIs(type(getattr(bounds, name)), int)


if __name__ == "__main__":
    unittest.main()
