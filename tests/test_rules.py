"""Rules: rule_error and change."""

import copy
import itertools
import unittest

from pairedaway.bounds import MAX_LENGTH, MAX_LETTERS, MAX_PAIRS, MAX_WINDOW
from pairedaway.rules import change, rule_error
from tests.helpers import texts

RULE = (("ab", "ba"), ("b", "c"))
SIX = (("a", "b"), ("aa", "bb"), ("ab", "ba"), ("aaa", "aab"), ("aba", "abb"), ("baa", "bab"))
# Values of each kind that may be asked about, none of which is a text.
OTHERS = [
    None, True, False, 0, 1, -1, 2, 10 ** 60 - 1, -(10 ** 60) + 1, (), (0,), ("a",), ("a", "b"), (("a", "b"),), [], ["a"],
    ["a", "b"], [("a", "b")], [["a", "b"]], {}, {"a": "b"}, {"a": 0, "b": 1}, {("a", "b"): None}, {0: "a", 1: "b"},
]


def told_change(rule, word):
    """What [6] says of a change, told once more place by place."""
    for place in range(len(word)):
        for index, (one, other) in enumerate(rule):
            for piece, partner in ((one, other), (other, one)):
                if word[place:place + len(piece)] == piece:
                    return (place, index, word[:place] + partner + word[place + len(piece):])
    return None


def deep(depth):
    value = "a"
    for level in range(depth):
        value = [(value,), [value], {"a": value}][level % 3]
    return value


class ExampleTest(unittest.TestCase):
    def test_rule_error(self):
        self.assertIsNone(rule_error(3, RULE))
        self.assertEqual(rule_error(2, RULE), (1, "pair"))
        self.assertEqual(rule_error(3, (("a", "b"), ("b", "c"))), (1, "pair"))

    def test_change(self):
        self.assertEqual(change(RULE, "aabb"), (1, 0, "abab"))
        self.assertEqual(change(RULE, "aac"), (2, 1, "aab"))
        self.assertEqual(change(RULE, "caab"), (0, 1, "baab"))
        self.assertIsNone(change(RULE, "aa"))


class RuleTest(unittest.TestCase):
    """Values for which rule_error returns None."""

    def assert_rule(self, letters, value):
        self.assertIsNone(rule_error(letters, value))

    def test_no_pairs(self):
        for letters in range(1, MAX_LETTERS + 1):
            self.assert_rule(letters, ())

    def test_one_pair(self):
        for letters in range(1, 4):
            for length in range(1, MAX_WINDOW + 1):
                for one, other in itertools.permutations(texts(letters, length), 2):
                    self.assert_rule(letters, ((one, other),))
        self.assert_rule(4, (("abc", "dcb"),))

    def test_six_pairs(self):
        self.assertEqual(len(SIX), MAX_PAIRS)
        for letters in (2, 3, 4):
            self.assert_rule(letters, SIX)

    def test_each_number_of_pairs(self):
        for pairs in range(MAX_PAIRS + 1):
            self.assert_rule(2, SIX[:pairs])

    def test_words_that_stand_in_other_words(self):
        self.assert_rule(2, (("a", "b"), ("ab", "ba"), ("aba", "bab")))


class NoRuleTest(unittest.TestCase):
    """Values for which rule_error tells what is wrong first."""

    def assert_told(self, told, letters, value):
        with self.subTest(value=repr(value)[:80]):
            self.assertEqual(rule_error(letters, value), told)

    def assert_bad_pair(self, item, letters=2):
        """The item is no pair, whatever stands ahead of it and behind it."""
        for index in range(4):
            ahead = (("bbb", "bba"), ("aa", "bb"), ("ab", "ba"))[:index]
            for behind in ((), (("aaa", "bab"),), (None,), SIX, (0,) * 50):
                self.assert_told((index, "pair"), letters, ahead + (item,) + behind)

    def test_no_tuple(self):
        for value in OTHERS:
            if not isinstance(value, tuple):
                self.assert_told((None, "rule"), 2, value)
        for value in ("", "a", "ab", "a\nb", "x" * 3500, list(SIX), [], dict(SIX), deep(20), {0: ("a", "b")}, [None] * 5999):
            self.assert_told((None, "rule"), 2, value)

    def test_pair_that_is_no_tuple(self):
        for item in OTHERS:
            if item != ("a", "b"):
                self.assert_bad_pair(item)
        for item in ("", "a", "ab", "a b", "abc", ["a", "b"], {"a": "b"}):
            self.assert_bad_pair(item)

    def test_pair_that_is_no_tuple_of_two(self):
        for item in ((), ("a",), ("a", "b", "a"), ("a", "b", None), ("ab", "ba", "bb"), (("a", "b"),), ("a", "b") * 3):
            self.assert_bad_pair(item)

    def test_word_that_is_no_text(self):
        for value in OTHERS:
            self.assert_bad_pair((value, "a"))
            self.assert_bad_pair(("a", value))
            self.assert_bad_pair((value, value))
        self.assert_bad_pair((["a"], ["b"]))
        self.assert_bad_pair((("a",), ("b",)))
        self.assert_bad_pair((deep(17), "a"))

    def test_words_alike(self):
        for word in ("a", "b", "ab", "aba", "bbb"):
            self.assert_bad_pair((word, word))

    def test_words_of_unlike_lengths(self):
        for one, other in (("a", "bb"), ("ab", "b"), ("a", "aba"), ("aba", "ab"), ("aa", "bbb")):
            self.assert_bad_pair((one, other))

    def test_empty_words(self):
        for pair in (("", ""), ("", "a"), ("a", "")):
            self.assert_bad_pair(pair)

    def test_words_of_four_letters_and_more(self):
        for pair in (("aaaa", "aaab"), ("abab", "baba"), ("a" * 3500, "b" * 3500), ("aaa", "aaab"), ("aaaa", "aab")):
            self.assert_bad_pair(pair)

    def test_letters_beyond(self):
        for letters in range(1, MAX_LETTERS):
            beyond = "abcde"[letters]
            for pair in ((beyond, "a"), ("a", beyond), ("a" + beyond, "aa"), ("aaa", beyond + "aa")):
                self.assert_told((0, "pair"), letters, (pair,))
                self.assertIsNone(rule_error(letters + 1, (pair,)))
        for bad in ("e", "A", "B", " ", "\n", "0", "*", "ae", "a ", " a", "a\n", "Ab", "abe", "z"):
            for pair in ((bad, "b" * len(bad)), ("a" * len(bad), bad)):
                self.assert_told((0, "pair"), 4, (pair,))

    def test_only_one_letter(self):
        for length in range(1, 4):
            self.assert_told((0, "pair"), 1, (("a" * length, "a" * length),))
            self.assert_told((0, "pair"), 1, (("a" * length, "b" * length),))

    def test_pairs_that_are_there_twice(self):
        self.assert_told((1, "pair"), 2, (("a", "b"), ("a", "b")))
        self.assert_told((1, "pair"), 2, (("a", "b"), ("b", "a")))
        self.assert_told((2, "pair"), 2, (("ab", "ba"), ("a", "b"), ("ba", "ab")))

    def test_words_of_other_pairs(self):
        for pair in (("a", "c"), ("c", "a"), ("b", "c"), ("c", "b")):
            self.assert_told((1, "pair"), 3, (("a", "b"), pair))
            self.assert_told((2, "pair"), 3, (("a", "b"), ("aa", "ab"), pair, pair))
        self.assert_told((5, "pair"), 2, SIX[:5] + (("bbb", "abb"),))

    def test_more_than_six_pairs(self):
        seven = SIX + (("bba", "bbb"),)
        self.assert_told((None, "many"), 2, seven)
        for pairs in range(MAX_PAIRS + 1, 33):
            words = texts(4, 3)
            self.assert_told((None, "many"), 4, tuple(zip(words[:pairs], words[32:32 + pairs])))

    def test_first_of_several(self):
        self.assert_told((None, "rule"), 2, [None] * 7)
        self.assert_told((0, "pair"), 2, (None,) * 7)
        self.assert_told((0, "pair"), 2, ((),) * 2900)
        self.assert_told((6, "pair"), 2, SIX + (("a", "b"),))
        self.assert_told((6, "pair"), 2, SIX + (None, ("a", "b")))
        self.assert_told((7, "pair"), 2, SIX + (("bba", "bbb"), ("bba", "bbb")))
        self.assert_told((1, "pair"), 2, (("a", "b"), ("b", "bb"), ("c", "c"), 0, ("a", "b"), 0, 0, 0))

    def test_large_values(self):
        self.assert_told((0, "pair"), 4, (0,) * 5990)
        self.assert_told((0, "pair"), 4, (deep(18),))
        self.assert_told((0, "pair"), 4, (("a",) * 5900,))
        self.assert_told((0, "pair"), 4, (("x" * 3500, "y" * 3500),))

    def test_value_stays_as_it_was(self):
        for value in (SIX, list(SIX), [["a", "b"]], (["a", "b"],), ((["a"], {"b": 1}),), {"a": ["b"]}, (("a", "b"), ["b"])):
            before = copy.deepcopy(value)
            rule_error(2, value)
            self.assertEqual(repr(value), repr(before))

    def test_results_are_plain(self):
        for told in (rule_error(2, 0), rule_error(2, (0,)), rule_error(2, SIX + (("bba", "bbb"),))):
            self.assertEqual((type(told), len(told), type(told[1])), (tuple, 2, str))
        self.assertIs(type(rule_error(2, (("a", "b"), 0))[0]), int)
        self.assertIs(type(rule_error(2, (0,))[0]), int)

    def test_equal_calls_return_equal_results(self):
        for value in (SIX, (("a", "b"), 0), 0, SIX):
            first = rule_error(2, value)
            rule_error(2, (("a", "b"),))
            rule_error(2, ((True, False),))
            self.assertEqual(rule_error(2, copy.deepcopy(value)), first)


class ChangeTest(unittest.TestCase):
    def assert_changes(self, rule, words):
        for word in words:
            self.assertEqual(change(rule, word), told_change(rule, word))

    def test_least_place(self):
        self.assertEqual(change((("a", "b"),), "ccbaab"), (2, 0, "ccaaab"))
        self.assertEqual(change((("bb", "cc"), ("a", "d")), "adbb"), (0, 1, "ddbb"))
        self.assertEqual(change((("a", "d"), ("bb", "cc")), "cbbad"), (1, 1, "cccad"))
        self.assertEqual(change((("ca", "cb"), ("aab", "abb")), "aaaabca"), (2, 1, "aaabbca"))

    def test_first_pair_at_a_place(self):
        self.assertEqual(change((("a", "b"), ("ab", "ba")), "cab"), (1, 0, "cbb"))
        self.assertEqual(change((("ab", "ba"), ("a", "b")), "cab"), (1, 0, "cba"))
        self.assertEqual(change((("ab", "ba"), ("a", "b")), "caa"), (1, 1, "cba"))
        self.assertEqual(change((("bb", "cc"), ("aba", "abb"), ("ab", "ba"), ("a", "c")), "abc"), (0, 2, "bac"))
        self.assertEqual(change((("aab", "abb"), ("a", "c"), ("aa", "bb")), "aab"), (0, 0, "abb"))

    def test_both_ways(self):
        for one, other in (("a", "b"), ("ab", "ca"), ("abc", "cba")):
            for pair in ((one, other), (other, one)):
                self.assertEqual(change((pair,), "dd" + one + "d"), (2, 0, "dd" + other + "d"))
                self.assertEqual(change((pair,), "dd" + other + "d"), (2, 0, "dd" + one + "d"))

    def test_words_that_stand_over_one_another(self):
        self.assertEqual(change((("aba", "bab"),), "ababab"), (0, 0, "babbab"))
        self.assertEqual(change((("aba", "bab"),), "cbaba"), (1, 0, "cabaa"))

    def test_empty_word_and_empty_rule(self):
        self.assertIsNone(change((), ""))
        self.assertIsNone(change(RULE, ""))
        for word in ("a", "abcd", "ab" * 200):
            self.assertIsNone(change((), word))

    def test_words_without_a_change(self):
        for rule, word in (
            ((("ab", "ba"),), "aaaa"), ((("ab", "ba"),), "bbb"), ((("ab", "ba"),), "acbca"), ((("aaa", "bbb"),), "aabbaabb"),
            ((("aaa", "bbb"),), "aa"), ((("a", "b"),), "cdcd"), (RULE, "aaaa"),
        ):
            self.assertIsNone(change(rule, word))

    def test_piece_at_the_end(self):
        self.assertEqual(change((("ab", "cd"),), "bbab"), (2, 0, "bbcd"))
        self.assertEqual(change((("ab", "cd"),), "bbac"), None)
        self.assertEqual(change((("abc", "cba"),), "cab"), None)

    def test_long_words(self):
        long = "a" * MAX_LENGTH
        self.assertIsNone(change((("ab", "ba"), ("bbb", "abb")), long))
        end = MAX_LENGTH - 1
        self.assertEqual(change((("b", "c"),), long[1:] + "b"), (end, 0, long[1:] + "c"))
        self.assertEqual(change((("ab", "cc"), ("bb", "bc")), long[1:] + "b"), (end - 1, 0, long[2:] + "cc"))
        self.assertEqual(change((("ccc", "aab"),), long[1:] + "b"), (end - 2, 0, long[3:] + "ccc"))
        self.assertEqual(change(SIX, "c" * (MAX_LENGTH - 1) + "b"), (end, 0, "c" * (MAX_LENGTH - 1) + "a"))
        self.assertEqual(change((("b", "c"),), "a" * 450 + "b"), (450, 0, "a" * 450 + "c"))

    def test_all_short_words(self):
        words = [word for length in range(7) for word in texts(3, length)]
        for rule in (
            RULE, (("a", "b"), ("ab", "ba")), (("ab", "ba"), ("a", "b")), (("abc", "cba"), ("aa", "bb"), ("c", "b")), SIX,
            SIX[::-1], (("aab", "aba"), ("bc", "cb"), ("ccc", "bbb")), (("acb", "cab"),), (),
        ):
            self.assert_changes(rule, words)

    def test_rules_of_two_pairs(self):
        pieces = ("a", "b", "c", "aa", "ab", "ba", "bc", "aba", "bab")
        words = [word for length in range(5) for word in texts(3, length)]
        for one, other, third, last in itertools.permutations(pieces, 4):
            rule = ((one, other), (third, last))
            if rule_error(3, rule) is None:
                self.assert_changes(rule, words)

    def test_arguments_stay_as_they_were_and_equal_calls_agree(self):
        rule = copy.deepcopy(RULE)
        first = [change(rule, word) for word in texts(3, 4)]
        change(SIX, "abab")
        self.assertEqual([change(copy.deepcopy(RULE), word) for word in texts(3, 4)], first)
        self.assertEqual(repr(rule), repr(RULE))

    def test_results_are_plain(self):
        found = change(RULE, "aabb")
        self.assertEqual([type(found), *[type(item) for item in found]], [tuple, int, int, str])


if __name__ == "__main__":
    unittest.main()
