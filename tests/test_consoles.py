"""Consoles: each command and its answers."""

import copy
import random
import unittest

from pairedaway.benches import Bench, RightBench
from pairedaway.bounds import MAX_EDITS
from pairedaway.consoles import Console
from pairedaway.texts import parse_scheme
from tests.helpers import any_machine, any_rule, every, ring
from tests.values import ANY, KIND

EVERY = every(2)
RULE = (("ab", "ba"), ("a", "b"), ("aab", "bba"))
SIX = (("a", "b"), ("aa", "bb"), ("ab", "ba"), ("aaa", "aab"), ("aba", "abb"), ("baa", "bab"))
UNKNOWN = "unknown command"
NUMBERS = ("drop", "lift", "turn", "signed", "left")


class ConsoleCase(unittest.TestCase):
    def assert_answers(self, bench, *told):
        console = Console(bench)
        for line, answer in told:
            self.assertEqual(console.execute(line), answer, line)
            self.assertIs(type(console.execute("")), str)

    def assert_unknown(self, *lines):
        """The answer, whatever the bench is like, and that nothing changes."""
        for bench in (Bench(EVERY, "+-", RULE), RightBench(KIND, "--")):
            rule = bench.rule
            console = Console(bench)
            for line in lines:
                self.assertEqual(console.execute(line), UNKNOWN, line)
            self.assertEqual((bench.rule, len(bench)), (rule, 0))


class ExampleTest(ConsoleCase):
    def test_all(self):
        self.assert_answers(
            Bench((2, ((0, 1), (0, None)), (True, True)), "+-"),
            ("add a b", "ok 1"), ("verdict", "kind ab"), ("on ab", "bb"), ("signed 3", "-1"), ("left 3", "0"),
            ("change 0 aa ab", "ok 2"), ("verdict", "kind aab"), ("turn 0", "ok 3"),
            ("text", "letters ab | signs +- | state 0 1 end | state 0 . end | pair ab aa"), ("add aa bb", "error BadRule"),
            ("on abc", "error BadWord"), ("left -1", "error BadLength"), ("add  a b", UNKNOWN),
        )


class CommandTest(ConsoleCase):
    def test_edits(self):
        bench = Bench(EVERY, "+-")
        self.assert_answers(
            bench, ("add ab ba", "ok 1"), ("add a b", "ok 2"), ("lift 1", "ok 3"), ("turn 0", "ok 4"), ("change 1 aab bba", "ok 5"),
            ("drop 0", "ok 6"), ("undo", "ok 5"), ("undo", "ok 4"), ("redo", "ok 5"), ("lift 0", "ok 6"),
        )
        self.assertEqual(bench.rule, (("b", "a"), ("aab", "bba")))
        self.assertEqual(bench.edits(), (
            ("add", ("ab", "ba")), ("add", ("a", "b")), ("lift", 1), ("turn", 0), ("change", 1, ("aab", "bba")), ("lift", 0)))

    def test_fewest(self):
        bench = Bench(EVERY, "+-", (("ab", "ba"), ("a", "b")))
        self.assert_answers(bench, ("fewest", "ok 1"), ("verdict", "right"), ("fewest", "ok 2"), ("undo", "ok 1"))
        self.assertEqual((bench.rule, bench.edits()), ((("a", "b"),), (("drop_fewest",),)))

    def test_text(self):
        self.assert_answers(Bench(every(1), "-"), ("text", "letters a | signs - | state 0 end"))
        self.assert_answers(
            Bench((4, ((None, 1, 0, 1), (None,) * 4), (False, True)), "+-+-", (("ab", "cd"), ("d", "a"))),
            ("text", "letters abcd | signs +-+- | state . 1 0 1 | state . . . . end | pair ab cd | pair d a"))
        chance = random.Random(1)
        for _ in range(50):
            scheme = (any_machine(chance, chance.randint(1, 8), 3, 0.3), "-+-", any_rule(chance, 3, 6, (1, 2, 3)))
            text = Console(Bench(*scheme)).execute("text")
            self.assertEqual(parse_scheme(text.replace(" | ", "\n")), scheme)

    def test_verdict(self):
        for rule, answer in (((), "right"), ((("a", "b"),), "right"), ((("ab", "ba"),), "sign ab"), ((("ab", "bb"),), "back aab")):
            self.assert_answers(Bench(EVERY, "+-", rule), ("verdict", answer))
        self.assert_answers(Bench((2, ((0, None),), (True,)), "+-", (("a", "b"),)), ("verdict", "kind a"))

    def test_on(self):
        self.assert_answers(
            Bench(EVERY, "+-", RULE), ("on aab", "bab"), ("on a", "b"), ("on b", "a"), ("on bbbbbbbbb", "abbbbbbbb"),
            ("on c", "error BadWord"), ("on abcabcabc", "error BadWord"), ("on d", "error BadWord"),
        )
        self.assert_answers(Bench(every(4), "++++", (("ab", "cd"),)), ("on dcba", "left"), ("on abab", "cdab"))

    def test_signed_and_left(self):
        bench = Bench(KIND, "+-", (("aa", "ab"),))
        for length in (0, 1, 2, 3, 9, 10, 399, 400):
            self.assert_answers(bench, (f"signed {length}", str(bench.signed(length))), (f"left {length}", str(bench.left(length))))
        great = Bench(every(4), "++++")
        self.assert_answers(great, ("signed 400", str(4 ** 400)), ("left 400", str(4 ** 400)))
        for number in ("401", "-1", "-400", "1000", "9" * 40, "-" + "9" * 40):
            self.assert_answers(bench, (f"signed {number}", "error BadLength"), (f"left {number}", "error BadLength"))

    def test_least_is_below_nothing(self):
        self.assert_answers(Bench(every(2), "--"), ("signed 1", "-2"), ("signed 0", "1"), ("left 3", "-8"))


class ErrorTest(ConsoleCase):
    def test_each_by_name(self):
        bench = Bench(EVERY, "+-", (("a", "b"),))
        self.assert_answers(
            bench, ("undo", "error NothingToUndo"), ("redo", "error NothingToRedo"), ("drop 1", "error NoPair"),
            ("drop -1", "error NoPair"), ("lift 1", "error NoPair"), ("turn 1", "error NoPair"), ("change 1 aa bb", "error NoPair"),
            ("add a b", "error BadRule"), ("add aa b", "error BadRule"), ("add c d", "error BadRule"), ("add aa aa", "error BadRule"),
            ("add aaaa bbbb", "error BadRule"), ("change 0 a a", "error BadRule"), ("change 0 abcdabcda a", "error BadRule"),
            ("on c", "error BadWord"), ("signed 401", "error BadLength"), ("left -1", "error BadLength"),
        )
        self.assertEqual((bench.rule, len(bench)), ((("a", "b"),), 0))

    def test_too_many_edits(self):
        bench = Bench(EVERY, "+-", RULE)
        for number in range(MAX_EDITS):
            self.assert_answers(bench, ("turn 0", f"ok {number + 1}"))
        for line in ("turn 0", "turn 9", "add aa bb", "add c d", "drop 0", "drop 9", "change 9 c d", "lift 0", "fewest"):
            self.assert_answers(bench, (line, "error TooManyEdits"))
        self.assert_answers(bench, ("redo", "error NothingToRedo"), ("undo", "ok 59"), ("redo", "ok 60"))

    def test_faulty(self):
        bench = RightBench(EVERY, "+-", (("a", "b"),))
        self.assert_answers(
            bench, ("change 0 ab bb", "error Faulty"), ("change 0 ab c", "error BadRule"), ("change 1 ab ba", "error NoPair"),
            ("turn 0", "ok 1"), ("drop 0", "ok 2"), ("add ab ba", "error Faulty"), ("fewest", "ok 3"), ("undo", "ok 2"),
            ("text", "letters ab | signs +- | state 0 0 end"), ("verdict", "right"),
        )

    def test_busy(self):
        bench = Bench(EVERY, "+-", RULE)
        console = Console(bench)
        answers = []

        def watch(held):
            for line in ("add aa bb", "add c d", "drop 9", "change 9 a b", "lift 0", "turn 0", "fewest", "undo", "redo"):
                answers.append(console.execute(line))
            self.assertEqual(Console(held).execute("undo"), "error Busy")
            self.assertEqual(console.execute("text"), "letters ab | signs +- | state 0 0 end | pair a b | pair aab bba")
            self.assertEqual(console.execute("on ab"), "bb")
            self.assertEqual(console.execute("verdict"), "right")
            self.assertEqual(console.execute("left 0"), "1")
            self.assertEqual(console.execute("undo "), UNKNOWN)

        self.assertEqual(bench.attempt([("drop", 0)], watch=watch), 1)
        self.assertEqual(answers, ["error Busy"] * 9)
        self.assertEqual(console.execute("undo"), "ok 0")


class NumberTest(ConsoleCase):
    def test_forty_digits(self):
        for number in ("1" + "0" * 39, "9" * 40, "-" + "9" * 40, "-1" + "0" * 39):
            self.assert_answers(
                Bench(EVERY, "+-", RULE), (f"drop {number}", "error NoPair"), (f"lift {number}", "error NoPair"),
                (f"turn {number}", "error NoPair"), (f"change {number} a b", "error NoPair"),
                (f"signed {number}", "error BadLength"), (f"left {number}", "error BadLength"))

    def test_no_numbers(self):
        wrong = (
            "1" + "0" * 40, "9" * 41, "-" + "9" * 41, "9" * 300, "-0", "00", "01", "000", "-01", "-00", "+1", "+0", "--1", "- 1", "1-",
            "1.0", "1e1", "0x1", "1_0", "a", "", "-", ".", " 1", "1 ", "1\n", "\n1", "None", "True", "0" * 40, "1,0",
        )
        self.assert_unknown(*(f"{name} {number}" for name in NUMBERS for number in wrong))
        self.assert_unknown(*(f"change {number} aa bb" for number in wrong))

    def test_last_index(self):
        self.assert_answers(Bench(EVERY, "+-", SIX), ("turn 5", "ok 1"), ("turn 6", "error NoPair"), ("drop 0", "ok 2"))


class WordTest(ConsoleCase):
    def test_nine_letters(self):
        bench = Bench(every(4), "+-++")
        self.assert_answers(
            bench, ("on abcdabcda", "left"), ("on aaaaaaaaa", "left"), ("on d", "left"), ("add abcdabcda a", "error BadRule"),
            ("add ddd ccc", "ok 1"), ("change 0 d abcdabcda", "error BadRule"))

    def test_no_words(self):
        wrong = ("abcdabcdab", "a" * 10, "a" * 400, "", "e", "abe", "A", "aB", "1", "a1", "a.", "a\n", "\na", "a,b", "-", "a-b")
        self.assert_unknown(*(f"on {word}" for word in wrong))
        self.assert_unknown(*(f"add {word} b" for word in wrong), *(f"add b {word}" for word in wrong))
        self.assert_unknown(*(f"change 0 {word} b" for word in wrong), *(f"change 0 b {word}" for word in wrong))
        self.assert_unknown("on \u00e9", "on \u0430", "drop \u0661", "drop \u00b2")


class LineTest(ConsoleCase):
    def test_other_lines(self):
        self.assert_unknown(
            "", " ", "\n", "add", "add a", "add a b c", "addab", "drop", "drop 0 1", "change", "change 0", "change 0 a",
            "change 0 a b c", "change a b 0", "change a b", "lift", "lift 0 0", "turn", "turn a", "fewest 1", "fewest a", "undo 1",
            "redo 0", "text 1", "text a", "verdict a", "on", "on a b", "on 1", "signed", "signed a", "signed 1 2", "left", "left a",
            "drop_fewest", "attempt", "state", "edits", "len", "str", "quit", "help", "Add a b", "ADD a b", "UNDO", "unknown command",
            "ok 1", "rule", "__len__", "changed ab", "changed", "add ('a', 'b')", "W", "N",
        )

    def test_blanks(self):
        """All spaces are single ones, none stands at the beginning or the end."""
        lines = ("add aa bb", "drop 0", "change 0 aa bb", "lift 0", "turn 0", "fewest", "undo", "redo", "text", "verdict", "on a",
                 "signed 1", "left 1")
        for line in lines:
            self.assert_unknown(
                " " + line, line + " ", "  " + line, line + "\n", "\n" + line, line + "\n" + line, line + "\t", line.upper(),
                line + "\r", line + " #", line + ";", line[1:], line + "x")
            if " " in line:
                self.assert_unknown(line.replace(" ", "  "), line.replace(" ", "\t"), line.replace(" ", "\n"), line.replace(" ", ""),
                                    line.replace(" ", "  ", 1))

    def test_no_texts(self):
        texts = ("undo", "a b")
        self.assert_unknown(*(value for value in ANY if value != "undo" and value not in texts))
        self.assert_unknown(None, True, 0, ["undo"], ("undo",), {"undo": 1}, b"undo", [], (), {})

    def test_values_stay(self):
        for value in ANY:
            before = copy.deepcopy(value)
            Console(Bench(EVERY, "+-")).execute(value)
            self.assertEqual(value, before)


class TwoConsolesTest(ConsoleCase):
    def test_same_bench(self):
        bench = Bench(EVERY, "+-")
        one, other = Console(bench), Console(bench)
        self.assertEqual(one.execute("add a b"), "ok 1")
        self.assertEqual(other.execute("turn 0"), "ok 2")
        bench.add(("aa", "bb"))
        self.assertEqual(one.execute("text"), "letters ab | signs +- | state 0 0 end | pair b a | pair aa bb")
        self.assertEqual([other.execute("undo"), one.execute("undo"), bench.undo()], ["ok 2", "ok 1", 0])
        self.assertEqual((one.execute("undo"), other.execute("redo"), len(bench)), ("error NothingToUndo", "ok 1", 1))

    def test_two_benches(self):
        one, other = Console(Bench(EVERY, "+-")), Console(RightBench(EVERY, "+-"))
        self.assertEqual((one.execute("add a b"), other.execute("undo")), ("ok 1", "error NothingToUndo"))

    def test_great_bench(self):
        bench = Bench(ring(8, 2), "+-", SIX)
        self.assertEqual(Console(bench).execute("fewest"), "ok 1")
        self.assertIsNone(bench.verdict())

    def test_where_it_stands(self):
        self.assertIn("execute", vars(Console))
        self.assertEqual(Console.__module__, "pairedaway.consoles")


if __name__ == "__main__":
    unittest.main()
