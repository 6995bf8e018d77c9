"""To and fro: partner."""

import copy
import random
import unittest
from unittest import mock

from pairedaway.bounds import MAX_LENGTH, MAX_PAIRS, MAX_STEPS
from pairedaway.errors import NotLeft, NotRight, PairError, TooFar
from pairedaway.lefts import left_of
from pairedaway.machines import smallest
from pairedaway.rules import change
from pairedaway.verdicts import fault, fewest_drop, minus_left
from pairedaway.ways import partner
from pairedaway.weighing import sign_of
from pairedaway.words import each_word, is_of
from tests.helpers import any_machine, any_rule, at_once, every, is_plain, told_words
from tests.values import ANY

ONE, OTHER = (("a", "b"),), (("b", "c"),)
FEW = (3, ((1, 1, 1), (None, None, None)), (False, True))
EVERY = every(3)


def told_partner(one, other, word):
    """The way to and fro, told once more change by change."""
    steps = 0
    while change(other, word) is not None:
        word = change(one, change(other, word)[2])[2]
        steps += 2
    return word, steps


def fit(kind, signs, rule):
    return fault(kind, signs, rule) is None and minus_left(kind, signs, rule) is None


def pairs_of_rules(seed, many):
    """Kinds with signs and two rules of them that can be put to and fro."""
    chance = random.Random(seed)
    found = 0
    while found < many:
        letters = chance.choice((2, 3, 3, 4))
        kind = every(letters)
        if chance.random() < 0.6:
            kind = any_machine(chance, chance.choice((1, 2, 3)), letters, 0.1, 0.7)
        signs = "".join(chance.choice("+-") for _ in range(letters))
        rules = []
        for _ in range(30):
            rule = any_rule(chance, letters, chance.randint(1, MAX_PAIRS), chance.choice(((1,), (1, 2), (2,), (1, 2, 3))))
            dropped = fewest_drop(kind, signs, rule)
            rule = tuple(pair for index, pair in enumerate(rule) if index not in dropped)
            if rule not in rules and fit(kind, signs, rule):
                rules.append(rule)
        if len(rules) > 1:
            found += 1
            yield kind, signs, *chance.sample(rules, 2)


class ExampleTest(unittest.TestCase):
    def test_partners(self):
        self.assertEqual(partner(FEW, "+-+", ONE, OTHER, "c"), ("a", 2))
        self.assertEqual(partner(FEW, "+-+", ONE, ONE, "c"), ("c", 0))

    def test_not_right(self):
        with self.assertRaises(NotRight) as caught:
            partner(every(2), "+-", (("a", "b"),), (("ab", "ba"),), "")
        self.assertEqual(caught.exception.which, 1)


class WayTest(unittest.TestCase):
    def test_no_steps(self):
        self.assertEqual(partner(EVERY, "+-+", ONE, OTHER, ""), ("", 0))
        self.assertEqual(partner(EVERY, "+++", (), (), "abcabc"), ("abcabc", 0))
        self.assertEqual(partner(EVERY, "+-+", ONE, ONE, "c" * MAX_LENGTH), ("c" * MAX_LENGTH, 0))
        self.assertEqual(partner(every(4), "+-++", ONE, OTHER, "ddd"), ("ddd", 0))

    def test_many_steps(self):
        """To and fro through all words of this length."""
        for length in range(9):
            self.assertEqual(partner(EVERY, "+-+", ONE, OTHER, "c" * length), ("a" * length, 3 ** length - 1))
            self.assertEqual(partner(EVERY, "+-+", OTHER, ONE, "a" * length), ("c" * length, 3 ** length - 1))

    def test_long_words(self):
        # Only the last letters are of the rules.
        self.assertEqual(partner(every(4), "+-++", ONE, OTHER, "d" * 398 + "cc"), ("d" * 398 + "aa", 8))
        self.assertEqual(partner(every(4), "+-++", ONE, OTHER, "c" + "d" * 399), ("a" + "d" * 399, 2))

    def test_too_far(self):
        with at_once():
            for length in (9, 10, 399, MAX_LENGTH):
                with self.assertRaises(TooFar) as caught:
                    partner(EVERY, "+-+", ONE, OTHER, "c" * length)
                self.assertIsInstance(caught.exception, PairError)

    def test_most_steps(self):
        self.assertEqual(MAX_STEPS, 10000)
        for length in (1, 3, 6):
            steps = 3 ** length - 1
            for most in (steps, steps + 1, steps + 2):
                with mock.patch("pairedaway.ways.MAX_STEPS", most):
                    self.assertEqual(partner(EVERY, "+-+", ONE, OTHER, "c" * length), ("a" * length, steps))
            for most in (0, 1, steps - 2, steps - 1):
                with mock.patch("pairedaway.ways.MAX_STEPS", most):
                    self.assertRaises(TooFar, partner, EVERY, "+-+", ONE, OTHER, "c" * length)
        with mock.patch("pairedaway.ways.MAX_STEPS", 0):
            self.assertEqual(partner(EVERY, "+-+", ONE, OTHER, ""), ("", 0))

    def test_one_to_one(self):
        """The partners of the words that one leaves are those that other leaves, length by length, each once."""
        moved = 0
        for kind, signs, one, other in pairs_of_rules(1, 60):
            for length in range(6):
                first, second = list(each_word(left_of(kind, one), length)), list(each_word(left_of(kind, other), length))
                partners = []
                for word in first:
                    found = partner(kind, signs, one, other, word)
                    self.assertTrue(is_plain(found))
                    self.assertEqual(found, told_partner(one, other, word))
                    self.assertEqual(partner(kind, signs, other, one, found[0]), (word, found[1]))
                    self.assertEqual(sign_of(signs, found[0]), 1)
                    self.assertTrue(is_of(kind, found[0]))
                    partners.append(found[0])
                    moved += found[0] != word
                self.assertEqual(sorted(partners), second)
        self.assertGreater(moved, 100)

    def test_equal_calls(self):
        arguments = (FEW, "+-+", ONE, OTHER, "c")
        copied = copy.deepcopy(arguments)
        self.assertEqual(partner(*copied), partner(*arguments))
        self.assertEqual(copied, arguments)


class ErrorTest(unittest.TestCase):
    def assert_not_right(self, which, *arguments):
        with self.assertRaises(NotRight) as caught:
            partner(*arguments)
        self.assertEqual(caught.exception.which, which)
        self.assertIs(type(caught.exception.which), int)

    def assert_not_left(self, kind, signs, one, other, word):
        with self.assertRaises(NotLeft) as caught:
            partner(kind, signs, one, other, word)
        self.assertIs(caught.exception.word, word)

    def test_not_right(self):
        right, wrong = (("a", "b"),), (("ab", "bb"),)
        self.assertIsNotNone(fault(every(2), "+-", wrong))
        self.assert_not_right(0, every(2), "+-", wrong, right, "")
        self.assert_not_right(1, every(2), "+-", right, wrong, "")
        self.assert_not_right(0, every(2), "+-", wrong, wrong, "")

    def test_not_right_though_no_word_with_the_sign_minus_is_left(self):
        right, wrong = (("a", "b"),), (("ab", "bb"),)
        self.assertIsNone(minus_left(every(2), "++", right))
        self.assert_not_right(0, every(2), "++", right, (), "")
        self.assert_not_right(1, every(2), "++", (), right, "")
        # By each of the reasons.
        kind = (2, ((1, 2), (None, None), (None, None)), (True, True, False))
        self.assertEqual((fault(kind, "+-", right), minus_left(kind, "+-", right)), (("a", "kind"), None))
        self.assert_not_right(0, kind, "+-", right, (), "")
        self.assert_not_right(1, kind, "+-", (), right, "")
        only_aab = (2, ((1, None), (2, None), (None, 3), (None, None)), (False, False, False, True))
        self.assertEqual((fault(only_aab, "-+", wrong), minus_left(only_aab, "-+", wrong)), (("aab", "back"), None))
        self.assert_not_right(0, only_aab, "-+", wrong, (), "")
        self.assert_not_right(1, only_aab, "-+", (), wrong, "")

    def test_right_but_a_word_with_the_sign_minus_is_left(self):
        right, minus = (("a", "b"),), (("aa", "ab"), ("ba", "bb"))
        self.assertIsNone(fault(every(2), "+-", minus))
        self.assertEqual(minus_left(every(2), "+-", minus), "b")
        self.assert_not_right(0, every(2), "+-", minus, right, "a")
        self.assert_not_right(1, every(2), "+-", right, minus, "")
        self.assert_not_right(0, every(2), "+-", minus, minus, "")
        self.assert_not_right(0, every(2), "+-", (), right, "")
        self.assert_not_right(1, every(2), "+-", right, (), "")

    def test_order(self):
        """NotRight(0), NotRight(1), NotLeft, TooFar."""
        wrong = (("ab", "ba"),)
        for word in (None, "a", "", "c" * 401):
            self.assert_not_right(0, EVERY, "+-+", wrong, wrong, word)
            self.assert_not_right(0, EVERY, "+-+", wrong, OTHER, word)
            self.assert_not_right(1, EVERY, "+-+", ONE, wrong, word)
        self.assert_not_left(EVERY, "+-+", ONE, OTHER, "c" * 401)
        self.assert_not_left(EVERY, "+-+", ONE, OTHER, "a" + "c" * 30)

    def test_not_left(self):
        for word in ("a", "b", "ca", "cb", "ccccb", "c" * 399 + "a", "c" * 401, "c" * 3500, "cd", "d", "C", "c ", " c", "c\n", "e"):
            self.assert_not_left(EVERY, "+-+", ONE, OTHER, word)
        # Words of the letters that are not of the kind.
        for word in ("", "cc", "ccc"):
            self.assert_not_left(FEW, "+-+", ONE, OTHER, word)
        self.assert_not_left((2, ((0, 0),), (False,)), "+-", (("a", "b"),), (("a", "b"),), "")

    def test_any_value(self):
        for value in ANY:
            if isinstance(value, str) and len(value) <= MAX_LENGTH and set(value) <= {"c"}:
                self.assertEqual(partner(EVERY, "+-+", ONE, OTHER, value)[0], "a" * len(value))
            else:
                self.assert_not_left(EVERY, "+-+", ONE, OTHER, value)
        for value in (["c"], ("c",), {"c": "c"}, 0, None, True, b"c"):
            self.assert_not_left(EVERY, "+-+", ONE, OTHER, value)

    def test_greatest_length(self):
        self.assertEqual(partner(every(4), "+-++", ONE, OTHER, "d" * 400), ("d" * 400, 0))
        self.assert_not_left(every(4), "+-++", ONE, OTHER, "d" * 401)


class SumTest(unittest.TestCase):
    def test_as_many_are_left_by_both(self):
        for kind, signs, one, other in pairs_of_rules(2, 30):
            first, second = (told_words(smallest(left_of(kind, rule)), 5) for rule in (one, other))
            self.assertEqual([len(word) for word in first], [len(word) for word in second])


if __name__ == "__main__":
    unittest.main()
