"""Decisions for all words: fault, unkept, minus_left and fewest_drop."""

import copy
import itertools
import random
import unittest

from pairedaway.bounds import MAX_PAIRS, MAX_STATES
from pairedaway.rules import change
from pairedaway.verdicts import fault, fewest_drop, minus_left, unkept
from pairedaway.words import is_of
from tests.helpers import any_machine, any_rule, at_once, every, is_plain, told_words
from tests.told_verdicts import (
    told_fault, told_minus_left, told_reason, told_sign, told_unkept, told_weight,
)

SIX = (("aaa", "aab"), ("aba", "abb"), ("baa", "bab"), ("bba", "bbb"), ("caa", "cab"), ("cba", "cbb"))
MIXED = (("a", "b"), ("ccc", "ccd"), ("cdc", "cdd"), ("dcc", "dcd"), ("ddc", "ddd"), ("cc", "cd"))
LENGTHS = ((1,), (2,), (3,), (1, 2), (2, 3), (1, 2, 3))


def loop(word, letters, states=MAX_STATES):
    """A kind of the words with which the letters of this one are read again and again, up to any whole number."""
    rows = [[None] * letters for _ in word]
    for state, letter in enumerate(word):
        rows[state]["abcd".index(letter)] = (state + 1) % len(word)
    assert len(word) <= states
    return (letters, tuple(map(tuple, rows)), (True,) + (False,) * (len(word) - 1))


def any_kind(chance, letters):
    """A kind of few states, sometimes one whose ends lie at the end of a long way."""
    states = chance.choice((1, 2, 3, 5, 8))
    if chance.random() < 0.6:
        return any_machine(chance, states, letters, chance.choice((0.0, 0.1, 0.4)), chance.choice((0.1, 0.3, 0.7)))
    rows = []
    for state in range(states):
        row = [chance.choice((0, state, state + 1, None)) for _ in range(letters)]
        row[chance.randrange(letters)] = state + 1
        rows.append(tuple(goal if goal is None or goal < states else states - 1 for goal in row))
    return (letters, tuple(rows), tuple(state == states - 1 for state in range(states)))


def cases(seed, many, letters=(1, 2, 2, 3, 4)):
    """Kinds, signs, rules and weights of all kinds."""
    chance = random.Random(seed)
    for _ in range(many):
        alphabet = chance.choice(letters)
        kind = any_kind(chance, alphabet)
        rule = any_rule(chance, alphabet, chance.randint(0, MAX_PAIRS), chance.choice(LENGTHS))
        signs = "".join(chance.choice("+-") for _ in range(alphabet))
        yield kind, signs, rule, tuple(chance.choice((-99, 0, 1, 99)) for _ in range(alphabet))


def right_cases(seed, many):
    """Rules that are right for their kinds with some signs."""
    chance = random.Random(seed)
    found = 0
    while found < many:
        letters = chance.choice((1, 2, 3, 4))
        kind = any_kind(chance, letters)
        signs = "".join(chance.choice("+-") for _ in range(letters))
        rule = any_rule(chance, letters, chance.randint(1, MAX_PAIRS), chance.choice(LENGTHS))
        dropped = fewest_drop(kind, signs, rule)
        rule = tuple(pair for index, pair in enumerate(rule) if index not in dropped)
        if rule:
            found += 1
            yield kind, signs, rule


class ExampleTest(unittest.TestCase):
    def test_fault(self):
        self.assertIsNone(fault(every(2), "+-", (("a", "b"),)))
        self.assertEqual(fault(every(2), "+-", (("ab", "ba"),)), ("ab", "sign"))
        self.assertEqual(fault(every(2), "--", (("a", "b"),)), ("a", "sign"))

    def test_fault_by_a_change_ahead(self):
        self.assertEqual(fault(every(2), "+-", (("ab", "bb"),)), ("aab", "back"))

    def test_unkept(self):
        self.assertIsNone(unkept(every(2), (1, 2), (("ab", "ba"),)))
        self.assertEqual(unkept(every(2), (1, 2), (("a", "b"),)), "a")

    def test_minus_left(self):
        self.assertEqual(minus_left(every(2), "+-", (("ab", "ba"),)), "b")

    def test_fewest_drop(self):
        self.assertEqual(fewest_drop(every(3), "+-+", (("ab", "ba"), ("a", "b"))), (0,))
        self.assertEqual(fewest_drop(every(3), "+-+", (("a", "b"),)), ())
        self.assertEqual(fewest_drop(every(3), "+-+", (("a", "c"),)), (0,))


class FaultTest(unittest.TestCase):
    def assert_fault(self, kind, signs, rule, wanted):
        self.assertEqual(fault(kind, signs, rule), wanted)
        self.assertTrue(is_plain(fault(kind, signs, rule)))
        if wanted is not None:
            self.assertEqual(told_reason(kind, signs, rule, wanted[0]), wanted[1])

    def test_each_reason(self):
        only_a = (2, ((0, None),), (True,))
        self.assert_fault(only_a, "+-", (("a", "b"),), ("a", "kind"))
        self.assert_fault(every(2), "++", (("a", "b"),), ("a", "sign"))
        self.assert_fault(every(2), "-+", (("ab", "bb"),), ("aab", "back"))
        self.assert_fault(every(2), "+-", (("ab", "aa"),), None)

    def test_first_of_several_reasons(self):
        only_aab = (2, ((1, None), (2, None), (None, 3), (None, None)), (False, False, False, True))
        rule = (("ab", "bb"),)
        # The word fails by each reason, then by the last two, then by the last one alone.
        self.assert_fault(only_aab, "++", rule, ("aab", "back"))
        only_ab = (2, ((1, None), (None, 2), (None, None)), (False, False, True))
        self.assert_fault(only_ab, "++", rule, ("ab", "kind"))
        self.assert_fault(only_ab, "+-", rule, ("ab", "kind"))
        self.assert_fault(every(2), "++", rule, ("ab", "sign"))

    def test_not_back_by_another_pair_at_the_same_place(self):
        # "aab" becomes "bab" by the second pair, and this becomes "abb" by the first one.
        self.assert_fault(every(3), "+-+", (("ba", "ab"), ("aac", "bac")), ("ab", "sign"))
        kind = (3, ((1, 1, None), (2, None, None), (None, None, 3), (None, None, None)), (False, False, False, True))
        self.assertEqual(change((("ba", "cc"), ("aac", "bac")), "aac"), (0, 1, "bac"))
        self.assert_fault(kind, "+-+", (("ba", "cc"), ("aac", "bac")), ("aac", "back"))

    def test_not_back_by_a_piece_that_ends_behind(self):
        """What comes stands at the end of a piece that has begun ahead, or at the beginning of a longer one."""
        kind = (4, ((None, None, 1, None), (None, None, 2, None), (3, 3, None, None), (None,) * 4),
                (False, False, False, True))
        self.assert_fault(kind, "+-++", (("a", "b"), ("ccb", "ccd")), ("cca", "back"))
        self.assert_fault(kind, "+-++", (("a", "b"),), None)
        kind = (4, ((1, 1, None, None), (None, None, 2, None), (None, None, None, 3), (None,) * 4),
                (False, False, False, True))
        self.assert_fault(kind, "+-++", (("bcd", "ddd"), ("a", "b")), ("acd", "back"))
        self.assert_fault(kind, "+-++", (("a", "b"), ("bcd", "ddd")), None)
        # The piece does not stand in any word that ends sooner.
        kind = (4, ((1, 1, None, None), (None, None, 2, None), (None, None, 3, None), (None,) * 4),
                (True, True, True, True))
        self.assert_fault(kind, "+-++", (("bcd", "ddd"), ("a", "b")), None)

    def test_first_word_of_several(self):
        self.assert_fault(every(2), "++", (("b", "a"),), ("a", "sign"))
        self.assert_fault(every(2), "++", (("bb", "ba"), ("ab", "aa")), ("aa", "sign"))
        self.assert_fault(every(3), "+++", (("c", "b"),), ("b", "sign"))
        # Shorter words come first, though another one begins with a letter ahead of theirs.
        kind = (2, ((1, 2), (2, None), (None, None)), (False, False, True))
        self.assert_fault(kind, "++", (("b", "a"),), ("b", "kind"))
        # Of one length the first one in order counts, whatever it fails by.
        kind = (3, ((1, None, 1), (None, None, None)), (False, True))
        self.assert_fault(kind, "+++", (("a", "b"), ), ("a", "kind"))
        self.assert_fault(kind, "+++", (("a", "c"), ), ("a", "sign"))

    def test_word_that_becomes_first_may_be_right(self):
        """The first word that fails need not be the one that comes first of a pair of words."""
        kind = (2, ((1, 1), (None, None)), (False, True))
        self.assert_fault(kind, "+-", (("a", "b"),), None)
        kind = (2, ((None, 1), (None, None)), (False, True))
        self.assert_fault(kind, "+-", (("a", "b"),), ("b", "kind"))

    def test_behind_a_long_beginning(self):
        for states in range(2, MAX_STATES + 1):
            # Letters "c" count; only behind the last one are "a" and "b" read, and "b" leads nowhere.
            rows = [(None, None, state + 1) for state in range(states - 1)] + [(states - 1, None, None)]
            kind = (3, tuple(rows), (False,) * (states - 1) + (True,))
            self.assert_fault(kind, "+-+", (("a", "b"),), ("c" * (states - 1) + "a", "kind"))
            self.assert_fault(kind, "+-+", (("c", "b"),), ("c" * (states - 1), "kind"))

    def test_behind_a_long_beginning_without_its_own_changes(self):
        """The kind is a ring of eight letters, and the rule must not begin to change on the way."""
        kind = loop("ccdccdda", 4)
        self.assert_fault(kind, "+-++", (("a", "b"),), ("ccdccdda", "kind"))
        self.assert_fault(kind, "+-++", (("a", "b"), ("ddc", "dda")), ("ccdccdda", "kind"))
        self.assert_fault(kind, "+-++", (("dda", "ddb"),), ("ccdccdda", "kind"))
        # A piece over the end of the ring: only words that go on behind it have it.
        self.assert_fault(kind, "+-++", (("dac", "dbc"),), ("ccdccdda" * 2, "kind"))
        self.assert_fault(kind, "+-++", (("acc", "bcc"),), ("ccdccdda" * 2, "kind"))

    def test_only_behind_beginnings_that_no_short_word_has(self):
        # Words are "a" or "b", or begin with seven letters "c"; behind these "b" is wanted.
        rows = ((7, 7, 1), (None, None, 2), (None, None, 3), (None, None, 4), (None, None, 5), (None, None, 6),
                (None, 7, None), (None, None, None))
        kind = (3, rows, (False,) * 7 + (True,))
        self.assert_fault(kind, "+-+", (("a", "b"),), ("ccccccb", "kind"))
        self.assert_fault(kind, "+-+", (("a", "b"), ("ccc", "cca")), ("ccccccb", "kind"))
        self.assert_fault(kind, "+-+", (("ca", "cb"),), ("ccccccb", "kind"))

    def test_only_behind_ends_that_are_far(self):
        """Both states that a change leads to have the same words up to six letters."""
        rows = ((1, 2), (3, 3), (4, 4), (5, 5), (6, 6), (7, 7), (7, 7), (1, 1))
        kind = (2, rows, (False, True, True, False, False, True, True, False))
        told = told_fault(kind, "+-", (("a", "b"),))
        self.assert_fault(kind, "+-", (("a", "b"),), told)
        rows = ((1, 4), (2, 2), (3, 3), (1, 1), (5, 5), (6, 6), (7, 7), (4, 4))
        # Lengths by three and by four, that part only where these do.
        kind = (2, rows, (False, True, True, True, True, True, True, False))
        self.assert_fault(kind, "+-", (("a", "b"),), told_fault(kind, "+-", (("a", "b"),)))
        kind = (2, rows, (False, True, False, False, True, False, False, False))
        self.assert_fault(kind, "+-", (("a", "b"),), ("aaaa", "kind"))

    def test_empty_rule(self):
        for kind, signs, rule, weights in cases(1, 50):
            self.assert_fault(kind, signs, (), None)

    def test_kind_without_words(self):
        for letters in range(2, 5):
            nothing = (letters, ((0,) * letters,), (False,))
            self.assert_fault(nothing, "+" * letters, (("a", "b"),), None)
            self.assert_fault(nothing, "-" * letters, (("aab", "abb"), ("a", "b")), None)

    def test_one_letter(self):
        # No rule of one letter has a pair: its words of one length are all the same.
        self.assert_fault(every(1), "-", (), None)

    def test_four_letters(self):
        self.assert_fault(every(4), "+-+-", (("a", "b"), ("c", "d")), None)
        self.assert_fault(every(4), "+--+", (("a", "b"), ("c", "d")), None)
        self.assert_fault(every(4), "+-++", (("a", "b"), ("c", "d")), ("c", "sign"))

    def test_six_pairs_of_three_letters(self):
        with at_once():
            self.assert_fault(every(3), "+-+", SIX, None)
            self.assert_fault(every(3), "++-", SIX, ("aaa", "sign"))
            chance = random.Random(2)
            for _ in range(20):
                kind = any_machine(chance, MAX_STATES, 3, 0.1)
                self.assert_fault(kind, "+-+", SIX, told_fault(kind, "+-+", SIX))
            kind = any_machine(chance, MAX_STATES, 4)
            self.assert_fault(kind, "+-++", MIXED, told_fault(kind, "+-++", MIXED))

    def test_against_all_words(self):
        """Up to some length, by the changes of all words."""
        for kind, signs, rule, weights in cases(3, 250):
            most = {1: 30, 2: 8, 3: 5, 4: 4}[kind[0]]
            told = None
            for word in told_words(kind, most):
                reason = told_reason(kind, signs, rule, word)
                if reason is not None:
                    told = (word, reason)
                    break
            found = fault(kind, signs, rule)
            if told is not None or (found is not None and len(found[0]) <= most):
                self.assertEqual(found, told)

    def test_for_all_lengths(self):
        for kind, signs, rule, weights in cases(4, 1500):
            self.assert_fault(kind, signs, rule, told_fault(kind, signs, rule))

    def test_right_rules(self):
        """What is right comes back, stays and turns, for all words up to some length."""
        for kind, signs, rule in right_cases(5, 100):
            self.assert_fault(kind, signs, rule, None)
            for word in told_words(kind, 4):
                told = change(rule, word)
                if told is not None:
                    self.assertEqual(change(rule, told[2])[2], word)
                    self.assertTrue(is_of(kind, told[2]))
                    self.assertEqual(told_sign(signs, told[2]), -told_sign(signs, word))

    def test_equal_calls(self):
        for kind, signs, rule, weights in cases(6, 30):
            arguments = copy.deepcopy((kind, signs, rule))
            first = fault(*arguments)
            self.assertEqual(arguments, (kind, signs, rule))
            self.assertEqual(fault(kind, signs, rule), first)


class UnkeptTest(unittest.TestCase):
    def test_kept_weights(self):
        for weights in ((0, 0), (1, 2), (-99, 99), (99, -99)):
            self.assertIsNone(unkept(every(2), weights, (("ab", "ba"), ("aab", "aba"))))
        self.assertIsNone(unkept(every(4), (-99, 99, 0, 0), (("abc", "bad"), ("c", "d"))))
        self.assertIsNone(unkept(every(4), (1, 2, 3, 0), (("ab", "cd"), ("ac", "bb"))))

    def test_all_alike(self):
        for weight in (-99, 0, 99):
            for kind, signs, rule, weights in cases(7, 30):
                self.assertIsNone(unkept(kind, (weight,) * kind[0], rule))

    def test_ends_of_weights(self):
        self.assertEqual(unkept(every(2), (-99, 99), (("a", "b"),)), "a")
        self.assertEqual(unkept(every(2), (99, 98), (("ab", "bb"),)), "ab")
        self.assertEqual(unkept(every(2), (-99, -98), (("bb", "ab"),)), "ab")

    def test_first_of_several(self):
        self.assertEqual(unkept(every(3), (0, 1, 2), (("c", "b"),)), "b")
        self.assertEqual(unkept(every(3), (0, 0, 2), (("ab", "ba"), ("cb", "bb"))), "bb")
        # The pair ahead keeps the weight of all words that the other one could change first.
        self.assertIsNone(unkept(every(3), (0, 0, 1), (("a", "b"), ("ab", "ac"), ("bb", "bc"))))
        self.assertIsNone(unkept((2, ((0, None),), (True,)), (0, 1), (("bb", "ab"),)))

    def test_change_out_of_the_kind(self):
        only_a = (2, ((0, None),), (True,))
        self.assertEqual(unkept(only_a, (0, 1), (("a", "b"),)), "a")
        self.assertEqual(unkept(only_a, (0, 1), (("aaa", "aba"),)), "aaa")
        self.assertIsNone(unkept(only_a, (1, 1), (("aaa", "aba"),)))

    def test_change_that_does_not_come_back(self):
        self.assertEqual(unkept(every(2), (0, 1), (("ab", "bb"),)), "ab")
        self.assertEqual(unkept(every(3), (1, 1, 0), (("ab", "bb"), ("b", "c"))), "b")

    def test_empty_rule_and_no_words(self):
        self.assertIsNone(unkept(every(3), (1, 2, 3), ()))
        self.assertIsNone(unkept((2, ((0, 0),), (False,)), (1, 2), (("a", "b"),)))
        self.assertIsNone(unkept(every(1), (99,), ()))

    def test_against_all_words(self):
        for kind, signs, rule, weights in cases(8, 250):
            most = {1: 30, 2: 8, 3: 5, 4: 4}[kind[0]]
            told = next((
                word for word in told_words(kind, most)
                if change(rule, word) and told_weight(weights, change(rule, word)[2]) != told_weight(weights, word)
            ), None)
            found = unkept(kind, weights, rule)
            if told is not None or (found is not None and len(found) <= most):
                self.assertEqual(found, told)

    def test_for_all_lengths(self):
        for kind, signs, rule, weights in cases(9, 1000):
            self.assertEqual(unkept(kind, weights, rule), told_unkept(kind, weights, rule))

    def test_equal_calls(self):
        for kind, signs, rule, weights in cases(10, 30):
            arguments = copy.deepcopy((kind, weights, rule))
            first = unkept(*arguments)
            self.assertEqual(arguments, (kind, weights, rule))
            self.assertEqual(unkept(kind, weights, rule), first)


class MinusLeftTest(unittest.TestCase):
    def test_none(self):
        self.assertIsNone(minus_left(every(2), "++", ()))
        self.assertIsNone(minus_left(every(2), "+-", (("a", "b"),)))
        self.assertIsNone(minus_left((2, ((0, None),), (True,)), "+-", ()))
        self.assertIsNone(minus_left((2, ((None, 1), (None, 0)), (True, False)), "+-", ()))

    def test_empty_word_has_the_sign_1(self):
        self.assertIsNone(minus_left((1, ((None,),), (True,)), "-", ()))
        self.assertEqual(minus_left(every(1), "-", ()), "a")

    def test_kind_without_words(self):
        self.assertIsNone(minus_left((2, ((0, 0),), (False,)), "--", ()))

    def test_first_of_several(self):
        self.assertEqual(minus_left(every(4), "++--", ()), "c")
        self.assertEqual(minus_left(every(3), "+--", (("b", "a"),)), "c")
        self.assertEqual(minus_left(every(3), "+-+", (("b", "c"), ("a", "b"))[:1]), None)
        self.assertEqual(minus_left(every(3), "+-+", (("bb", "bc"), ("ab", "ac"), ("cb", "cc"))), "b")
        two = (2, ((1, 1), (2, 2), (None, None)), (False, False, True))
        self.assertEqual(minus_left(two, "+-", ()), "ab")
        self.assertEqual(minus_left(two, "-+", ()), "ab")
        self.assertEqual(minus_left(two, "-+", (("ab", "bb"),)), "ba")

    def test_long_words_alone(self):
        for states in range(2, MAX_STATES + 1):
            rows = tuple((None, state + 1) for state in range(states - 1)) + ((states - 1, None),)
            kind = (2, rows, (False,) * (states - 1) + (True,))
            last = "b" * (states - 1)
            self.assertEqual(minus_left(kind, "+-", ()), last if states % 2 == 0 else None)
            self.assertEqual(minus_left(kind, "-+", ()), last + "a")
            self.assertEqual(minus_left(kind, "--", ()), last if states % 2 == 0 else last + "a")
            self.assertIsNone(minus_left(kind, "--", (("b", "a"),)))

    def test_for_all_lengths(self):
        for kind, signs, rule, weights in cases(11, 1500):
            found = minus_left(kind, signs, rule)
            self.assertEqual(found, told_minus_left(kind, signs, rule))
            self.assertTrue(is_plain(found))
            if found is not None:
                self.assertTrue(is_of(kind, found) and change(rule, found) is None and told_sign(signs, found) == -1)

    def test_six_pairs_of_three_letters(self):
        chance = random.Random(12)
        for _ in range(50):
            kind = any_machine(chance, MAX_STATES, 3, 0.1)
            self.assertEqual(minus_left(kind, "+-+", SIX), told_minus_left(kind, "+-+", SIX))


class FewestDropTest(unittest.TestCase):
    def assert_fewest(self, kind, signs, rule):
        """What is returned makes the rule right, and no fewer, nor other ones ahead of them, do."""
        found = fewest_drop(kind, signs, rule)
        for many in range(len(rule) + 1):
            for dropped in itertools.combinations(range(len(rule)), many):
                kept = tuple(pair for index, pair in enumerate(rule) if index not in dropped)
                if fault(kind, signs, kept) is None:
                    self.assertEqual(found, dropped)
                    self.assertTrue(is_plain(found))
                    return

    def test_none(self):
        self.assertEqual(fewest_drop(every(2), "+-", ()), ())
        self.assertEqual(fewest_drop(every(4), "+-+-", (("a", "b"), ("c", "d"))), ())
        self.assertEqual(fewest_drop((2, ((0, 0),), (False,)), "++", (("a", "b"),)), ())

    def test_all(self):
        self.assertEqual(fewest_drop(every(3), "+++", SIX), (0, 1, 2, 3, 4, 5))
        self.assertEqual(fewest_drop(every(2), "++", (("a", "b"), ("ab", "ba"))), (0, 1))

    def test_several(self):
        rule = (("ab", "ba"), ("c", "d"), ("bb", "aa"), ("a", "b"))
        self.assertEqual(fewest_drop(every(4), "+-++", rule), told_fewest(every(4), "+-++", rule))
        self.assertEqual(fewest_drop(every(4), "+-+-", rule), (0, 2))

    def test_first_of_several(self):
        """Each of two pairs may stay, but not both."""
        kind = (4, ((1, 1, 1, None), (None,) * 4), (False, True))
        rule = (("a", "b"), ("ca", "cb"), ("ab", "ac"))
        self.assertEqual(fewest_drop(kind, "+-++", rule), ())
        for pairs in itertools.permutations((("a", "b"), ("ab", "cb"), ("ba", "ca"))):
            self.assert_fewest(every(3), "+-+", pairs)
        for pairs in itertools.permutations((("aab", "aba"), ("aa", "ab"), ("ba", "bb"), ("abb", "aaa"))):
            self.assert_fewest(every(2), "+-", pairs)

    def test_any(self):
        for kind, signs, rule, weights in cases(13, 500):
            self.assert_fewest(kind, signs, rule)

    def test_most_pairs(self):
        chance = random.Random(14)
        with at_once():
            for _ in range(25):
                kind = any_machine(chance, chance.choice((1, 8)), 3, 0.0, 0.8)
                rule = any_rule(chance, 3, MAX_PAIRS, chance.choice(((3,), (1, 2, 3))))
                self.assert_fewest(kind, "+-+", rule)

    def test_equal_calls(self):
        for kind, signs, rule, weights in cases(15, 20):
            arguments = copy.deepcopy((kind, signs, rule))
            first = fewest_drop(*arguments)
            self.assertEqual(arguments, (kind, signs, rule))
            self.assertEqual(fewest_drop(kind, signs, rule), first)


def told_fewest(kind, signs, rule):
    for many in range(len(rule) + 1):
        for dropped in itertools.combinations(range(len(rule)), many):
            kept = tuple(pair for index, pair in enumerate(rule) if index not in dropped)
            if told_fault(kind, signs, kept) is None:
                return dropped


if __name__ == "__main__":
    unittest.main()
