"""Schemes and their texts: scheme_error, scheme_text and parse_scheme."""

import copy
import random
import unittest

from pairedaway.bounds import MAX_PAIRS, MAX_STATES
from pairedaway.errors import BadScheme, BadText, PairError
from pairedaway.texts import parse_scheme, scheme_error, scheme_text
from tests.helpers import any_machine, any_rule, every, is_plain, ring
from tests.values import ANY, KIND, SCHEME, TEXT

SIX = (("a", "b"), ("aa", "bb"), ("ab", "ba"), ("aaa", "aab"), ("aba", "abb"), ("baa", "bab"))


def any_scheme(chance):
    letters = chance.randint(1, 4)
    kind = any_machine(chance, chance.randint(1, MAX_STATES), letters, chance.choice((0.0, 0.5)))
    signs = "".join(chance.choice("+-") for _ in range(letters))
    return (kind, signs, any_rule(chance, letters, chance.randint(0, MAX_PAIRS), (1, 2, 3, 3)))


class ExampleTest(unittest.TestCase):
    def test_text_and_back(self):
        self.assertEqual(scheme_text(SCHEME), "letters ab\nsigns +-\nstate 0 1 end\nstate 0 .\npair aa ab")
        self.assertEqual(parse_scheme(scheme_text(SCHEME)), SCHEME)

    def assert_raises(self, text, kind, field, wanted):
        with self.assertRaises(kind) as caught:
            parse_scheme(text)
        self.assertEqual(getattr(caught.exception, field), wanted)

    def test_a_line_must_follow(self):
        self.assert_raises("letters a\nsigns +", BadText, "line", 2)

    def test_no_state_behind_a_pair(self):
        self.assert_raises("letters ab\nsigns +-\nstate 0 0 end\npair a b\nstate 0 0", BadText, "line", 4)

    def test_no_scheme(self):
        self.assert_raises("letters ab\nsigns +-\nstate 0 1 end\npair a b", BadScheme, "error", ("kind", "rows"))


class SchemeErrorTest(unittest.TestCase):
    def assert_error(self, value, wanted):
        before = copy.deepcopy(value)
        self.assertEqual(scheme_error(value), wanted)
        self.assertTrue(is_plain(scheme_error(value)))
        self.assertEqual(value, before)

    def test_schemes(self):
        self.assert_error(SCHEME, None)
        self.assert_error((every(1), "-", ()), None)
        self.assert_error((every(2), "--", SIX), None)
        self.assert_error((ring(8, 4), "+-+-", (("abc", "bcd"), ("d", "c"))), None)
        chance = random.Random(1)
        for _ in range(200):
            self.assert_error(any_scheme(chance), None)

    def test_no_tuple_of_three(self):
        for value in ANY:
            if not isinstance(value, tuple) or len(value) != 3:
                self.assert_error(value, ("scheme", None))
        for value in (list(SCHEME), SCHEME[:2], (*SCHEME, None), dict(enumerate(SCHEME)), (SCHEME,)):
            self.assert_error(value, ("scheme", None))

    def test_kind(self):
        for value in ANY:
            if value != KIND:
                self.assertEqual(scheme_error((value, "+-", ()))[0], "kind")
        self.assert_error((None, "+-", ()), ("kind", "machine"))
        self.assert_error((list(KIND), "+-", ()), ("kind", "machine"))
        self.assert_error(((5, *KIND[1:]), "+-", ()), ("kind", "letters"))
        self.assert_error(((True, ((0,),), (True,)), "+", ()), ("kind", "letters"))
        self.assert_error(((2, ((0, 2), (0, None)), (True, False)), "+-", ()), ("kind", "rows"))
        self.assert_error(((2, (), ()), "+-", ()), ("kind", "rows"))
        self.assert_error(((2, KIND[1], (True,)), "+-", ()), ("kind", "ends"))
        self.assert_error(((2, KIND[1], (1, 0)), "+-", ()), ("kind", "ends"))

    def test_states(self):
        self.assert_error((ring(8), "+", ()), None)
        for states in (9, 10, 399, 400):
            self.assert_error((ring(states), "+", ()), ("kind", "states"))
        self.assert_error((ring(401), "+", ()), ("kind", "rows"))
        self.assert_error((ring(9)[:2] + ((True,),), "+", ()), ("kind", "ends"))

    def test_signs(self):
        for value in ANY:
            wanted = None if value in ("+-", "-+") else ("signs", None)
            self.assert_error((KIND, value, ()), wanted)
        for value in ("+", "+-+", "+ ", " +-", "+-\n", "+x", "ab", ["+", "-"], ("+", "-"), "++++", None):
            self.assert_error((KIND, value, ()), ("signs", None))
        for letters in range(1, 5):
            for many in range(6):
                self.assert_error((every(letters), "-" * many, ()), None if many == letters else ("signs", None))

    def test_rule(self):
        for value in ANY:
            if not isinstance(value, tuple):
                self.assert_error((KIND, "+-", value), ("rule", (None, "rule")))
        self.assert_error((KIND, "+-", [("a", "b")]), ("rule", (None, "rule")))
        self.assert_error((KIND, "+-", (("a", "c"),)), ("rule", (0, "pair")))
        self.assert_error((KIND, "+-", (("a", "b"), ("b", "a"))), ("rule", (1, "pair")))
        self.assert_error((KIND, "+-", (("a", "b"), None)), ("rule", (1, "pair")))
        self.assert_error((KIND, "+-", (*SIX, ("bb", "aa"))), ("rule", (6, "pair")))
        self.assert_error((KIND, "+-", (*SIX, ("bba", "bbb"))), ("rule", (None, "many")))

    def test_first_of_several(self):
        self.assert_error((None, None, None, None), ("scheme", None))
        self.assert_error((None, None, None), ("kind", "machine"))
        self.assert_error((ring(9), None, None), ("kind", "states"))
        self.assert_error((KIND, None, None), ("signs", None))
        self.assert_error((KIND, "+-", None), ("rule", (None, "rule")))
        self.assert_error((ring(9), "++", (("a", "b"),)), ("kind", "states"))


class RoundTest(unittest.TestCase):
    def assert_there_and_back(self, scheme, text=None):
        found = scheme_text(scheme)
        self.assertIs(type(found), str)
        if text is not None:
            self.assertEqual(found, text)
        self.assertEqual(parse_scheme(found), scheme)
        self.assertTrue(is_plain(parse_scheme(found)))

    def test_texts(self):
        self.assert_there_and_back((every(1), "-", ()), "letters a\nsigns -\nstate 0 end")
        self.assert_there_and_back(((1, ((None,),), (False,)), "+", ()), "letters a\nsigns +\nstate .")
        self.assert_there_and_back(
            ((4, ((1, None, 0, 1), (None,) * 4), (False, True)), "+-+-", (("ab", "cd"), ("d", "a"))),
            "letters abcd\nsigns +-+-\nstate 1 . 0 1\nstate . . . . end\npair ab cd\npair d a",
        )

    def test_any(self):
        chance = random.Random(2)
        for _ in range(400):
            self.assert_there_and_back(any_scheme(chance))

    def test_most(self):
        for letters in range(1, 5):
            scheme = (ring(8, letters), "-" * letters, SIX if letters > 1 else ())
            self.assert_there_and_back(scheme)
            self.assertEqual(scheme_text(scheme).count("\n"), 9 + len(scheme[2]))

    def test_equal_calls(self):
        scheme = copy.deepcopy(SCHEME)
        self.assertEqual(scheme_text(scheme), scheme_text(SCHEME))
        self.assertEqual(scheme, SCHEME)


class ParseTest(unittest.TestCase):
    def assert_line(self, text, line):
        with self.assertRaises(BadText) as caught:
            parse_scheme(text)
        self.assertEqual(caught.exception.line, line, text)
        self.assertIsInstance(caught.exception, PairError)

    def assert_scheme(self, text, error):
        with self.assertRaises(BadScheme) as caught:
            parse_scheme(text)
        self.assertEqual(caught.exception.error, error, text)

    def assert_lines(self, lines, line):
        self.assert_line("\n".join(lines), line)

    def test_no_text(self):
        for value in ANY:
            if not isinstance(value, str):
                self.assert_line(value, None)
        self.assert_line([TEXT], None)
        self.assert_line(TEXT.split("\n"), None)

    def test_other_texts(self):
        for value in ANY:
            if isinstance(value, str) and value != TEXT:
                self.assert_line(value, 0)

    def test_each_beginning_by_lines(self):
        lines = TEXT.split("\n")
        for many in range(1, 3):
            self.assert_lines(lines[:many], many)
        # One state would do if it led to no other one.
        self.assert_scheme("\n".join(lines[:3]), ("kind", "rows"))
        self.assertEqual(parse_scheme("\n".join(lines[:4])), (KIND, "+-", ()))

    def test_each_beginning_with_a_wrong_line_behind_it(self):
        lines = TEXT.split("\n")
        for many in range(len(lines) + 1):
            for wrong in ("", " ", "x", "letters ab", "signs +-", "states 0 0", "end", "pair a", "state", "Pair a b"):
                if wrong == lines[many:many + 1] or (wrong == "letters ab" and many == 0):
                    continue
                if wrong == "signs +-" and many == 1:
                    continue
                self.assert_lines(lines[:many] + [wrong], many)
                self.assert_lines(lines[:many] + [wrong] + lines[many:], many)

    def test_empty_last_line(self):
        for at in range(1, 6):
            beginning = "\n".join(TEXT.split("\n")[:at])
            self.assert_line(beginning + "\n", at)
            self.assert_line(beginning + "\n\n", at)
        self.assert_line("", 0)
        self.assert_line("\n", 0)
        self.assert_line("\n" + TEXT, 0)

    def test_a_blank_more_or_less(self):
        for at, line in enumerate(TEXT.split("\n")):
            lines = TEXT.split("\n")
            for place in range(len(line) + 1):
                lines[at] = line[:place] + " " + line[place:]
                if line.startswith(("letters", "signs")) or line[place - 1:place] in ("", " ") or (
                        line[place:place + 1] in ("", " ") or line.startswith("pair") or line[place].isalpha()):
                    self.assert_lines(lines, at)
            for place, letter in enumerate(line):
                if letter == " ":
                    lines[at] = line[:place] + line[place + 1:]
                    if line[place:] != " 1 end":
                        self.assert_lines(lines, at)

    def test_a_line_more_less_or_exchanged(self):
        lines = TEXT.split("\n")
        self.assert_lines(lines[1:], 0)
        self.assert_lines([lines[0], *lines[2:]], 1)
        self.assert_lines(lines[:2] + lines[4:], 2)
        self.assert_lines(lines[:1] + lines, 1)
        self.assert_lines(lines[:2] + lines[1:], 2)
        self.assert_lines([lines[1], lines[0], *lines[2:]], 0)
        self.assert_lines([lines[0], *lines[2:4], lines[1], lines[4]], 1)
        self.assert_lines([*lines[:2], lines[4], *lines[2:4]], 2)
        self.assert_lines([*lines[:3], lines[4], lines[3]], 4)
        self.assert_lines([*lines, lines[3]], 5)
        self.assert_lines([*lines, lines[0]], 5)
        # Lines that are one more, but well formed.
        self.assert_scheme("\n".join([*lines, lines[4]]), ("rule", (1, "pair")))
        self.assertEqual(parse_scheme("\n".join([*lines[:4], lines[3], lines[4]])), (
            (2, ((0, 1), (0, None), (0, None)), (True, False, False)), "+-", SCHEME[2]))
        self.assertEqual(parse_scheme("\n".join([*lines[:2], lines[3], lines[2], lines[4]])), (
            (2, ((0, None), (0, 1)), (False, True)), "+-", SCHEME[2]))

    def test_first_line(self):
        rest = TEXT.split("\n")[1:]
        for line in ("letters", "letters ", "letters b", "letters ba", "letters abd", "letters abcde", "letters aab",
                     "letters ab ", " letters ab", "letters  ab", "Letters ab", "letters AB", "letters a b", "letter ab",
                     "letters ab end", "letters 2"):
            self.assert_lines([line, *rest], 0)
        for line in ("letters a", "letters abc", "letters abcd"):
            self.assert_scheme("\n".join([line, *rest]), ("kind", "rows"))

    def test_signs(self):
        lines = TEXT.split("\n")
        for line in ("signs", "signs ", "signs x", "signs +x", "signs + -", "signs +- ", "sign +-", "signs +-+a", "signs 1",
                     "signs +-.", " signs +-", "signs  +-", "Signs +-"):
            self.assert_lines([lines[0], line, *lines[2:]], 1)
        for line in ("signs +", "signs -", "signs +-+", "signs " + "-" * 1000):
            self.assert_scheme("\n".join([lines[0], line, *lines[2:]]), ("signs", None))

    def test_states(self):
        lines = TEXT.split("\n")
        for line in ("state", "state ", "state end", "state  end", "state 0 0 end ", "state 0 0 End", "state 0 0 end end",
                     "state end 0 0", "state 0 end 0", "state 0 -1", "state 0 +1", "state 0 x", "state 0 a", "state 0,0",
                     "state 0 0 0 0 0", "state 0 0 0 0 0 end", "state 0 ..", "state 00 0", "state 01 0", "state 0 000000000",
                     "state 0 0123456789", "state 0 1234567890", "state 0 1000000000", "state 0 0x1", "state 0 1_0", "state 0 1e3",
                     "state 0 0end", "states 0 0", "State 0 0", "state\t0 0"):
            self.assert_lines(lines[:2] + [line] + lines[3:], 2)
            self.assert_lines(lines[:3] + [line] + lines[4:], 3)

    def test_wide_states(self):
        lines = TEXT.split("\n")
        for line in ("state 0", "state .", "state . end", "state 0 0 0", "state 0 . 0 1 end", "state 0 2", "state 0 9",
                     "state 0 10 end", "state 0 123456789", "state 999999999 999999999 end", "state 0 100000000"):
            self.assert_scheme("\n".join(lines[:3] + [line] + lines[4:]), ("kind", "rows"))
        for states in (9, 10, 300, 400):
            self.assert_scheme("letters a\nsigns +" + "\nstate 0" * states, ("kind", "states"))
        self.assert_scheme("letters a\nsigns +" + "\nstate 0" * 401, ("kind", "rows"))
        self.assert_scheme("letters a\nsigns +" + "\nstate 0" * 430 + "\npair a b", ("kind", "rows"))
        self.assertEqual(parse_scheme("letters a\nsigns +" + "\nstate 7 end" * 8)[0], (1, ((7,),) * 8, (True,) * 8))

    def test_pairs(self):
        lines = TEXT.split("\n")
        for line in ("pair", "pair ", "pair a", "pair a ", "pair a b ", "pair  a b", "pair a  b", "pair a b c", "pair a e",
                     "pair a b end", "pair A B", "pair a 1", "pairs a b", "pair aaaaaaaaaa b", "pair a aaaaaaaaaa", "pair a ab.",
                     "pair ab", "Pair a b", "pair a\tb", "pair . b", "pair abcd,abcd"):
            self.assert_lines(lines[:4] + [line], 4)
            self.assert_lines(lines + [line, "pair b a"], 5)

    def test_wide_pairs(self):
        lines = TEXT.split("\n")
        for line in ("pair a aa", "pair a a", "pair abcd abcd", "pair aaaaaaaaa aaaaaaaab", "pair a c", "pair aaaa aaab",
                     "pair abcdabcda d"):
            self.assert_scheme("\n".join(lines[:4] + [line]), ("rule", (0, "pair")))
            self.assert_scheme("\n".join(lines + [line]), ("rule", (1, "pair")))
        many = [f"pair {one} {other}" for one, other in SIX]
        self.assertEqual(parse_scheme("\n".join(lines[:4] + many))[2], SIX)
        self.assert_scheme("\n".join(lines[:4] + many + ["pair bba bbb"]), ("rule", (None, "many")))
        self.assert_scheme("\n".join(lines[:4] + many + ["pair bba bbb"] + many[:1]), ("rule", (7, "pair")))
        self.assert_scheme("\n".join(lines[:4] + ["pair a b"] * 300), ("rule", (1, "pair")))

    def test_first_of_several(self):
        """A wrong line comes ahead of what is no scheme, even behind it."""
        self.assert_line("letters abc\nsigns +\nstate 5\nx", 3)
        self.assert_line("letters abc\nsigns +\nstate 5\npair a b\n", 4)
        self.assert_scheme("letters abc\nsigns +\nstate 5", ("kind", "rows"))
        self.assert_scheme("letters a\nsigns +-\nstate 0\npair a b", ("signs", None))
        self.assert_scheme("letters a\nsigns +\nstate 0\npair a b", ("rule", (0, "pair")))

    def test_one_sign_otherwise(self):
        """Each text with one sign otherwise, less or more, is a scheme with just this text, or raises one of the errors."""
        chance = random.Random(3)
        raised = 0
        for _ in range(40):
            text = scheme_text(any_scheme(chance))
            for at in range(len(text)):
                sign = chance.choice("abcd+-.01 9\nend")
                for changed in (text[:at] + sign + text[at + 1:], text[:at] + text[at + 1:], text[:at] + sign + text[at:]):
                    try:
                        found = parse_scheme(changed)
                    except BadText as error:
                        self.assertLessEqual(error.line, changed.count("\n") + 1)
                        raised += 1
                    except BadScheme as error:
                        self.assertIn(error.error[0], ("kind", "signs", "rule"))
                        raised += 1
                    else:
                        self.assertEqual(scheme_text(found), changed)
                        self.assertIsNone(scheme_error(found))
        self.assertGreater(raised, 1000)


if __name__ == "__main__":
    unittest.main()
