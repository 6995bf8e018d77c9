"""RightBench: a bench whose rule is right in each of its versions."""

import itertools
import random
import unittest

from pairedaway.benches import Bench, RightBench
from pairedaway.bounds import MAX_EDITS
from pairedaway.errors import (
    BadEdit, BadEdits, BadRule, BadScheme, Busy, Faulty, NoPair, NothingToRedo, NothingToUndo, PairError, Rejected,
    TooManyEdits,
)
from pairedaway.texts import scheme_error
from pairedaway.verdicts import fault
from tests.helpers import every
from tests.test_attempts import Odd, Truth, Wrong
from tests.test_benches import EVERY, BenchCase, edit
from tests.values import ANY, KIND

RIGHT = (("aa", "ab"), ("ba", "bb"))
LETTERS = (("a", "b"),)


def right_bench(*rule):
    return RightBench(EVERY, "+-", rule)


class ExampleTest(BenchCase):
    def test_through_rules_that_are_not_right(self):
        bench = RightBench(EVERY, "+-", LETTERS)
        self.assertEqual(bench.attempt([("change", 0, ("ab", "ba")), ("change", 0, ("aa", "ab"))]), 2)
        self.assertEqual((bench.left(3), str(bench)), (0, "1 states, 1 pairs, 1 edits"))

    def test_faulty(self):
        bench = RightBench(EVERY, "+-", LETTERS)
        self.assert_refused(bench, Faulty, lambda: bench.change(0, ("ab", "bb")), fault=("aab", "back"))


class MakeTest(BenchCase):
    def test_right(self):
        bench = RightBench(EVERY, "+-", RIGHT)
        self.assertEqual((bench.kind, bench.signs, bench.rule), (EVERY, "+-", RIGHT))
        self.assertEqual(RightBench(KIND, "--").rule, ())
        self.assertEqual(RightBench(kind=EVERY, signs="+-", rule=LETTERS).rule, LETTERS)
        self.assertIsInstance(bench, Bench)

    def test_faulty(self):
        for kind, signs, rule in ((EVERY, "++", LETTERS), (EVERY, "+-", (("ab", "bb"),)), (KIND, "+-", LETTERS)):
            self.assert_raises(Faulty, lambda: RightBench(kind, signs, rule), fault=fault(kind, signs, rule))
            self.assertIsInstance(Faulty(1), PairError)

    def test_bad_scheme_comes_first(self):
        for value in ANY:
            for parts in ((value, "++", LETTERS), (EVERY, value, LETTERS), (EVERY, "++", value)):
                error = scheme_error(parts)
                if error is not None:
                    self.assert_raises(BadScheme, lambda: RightBench(*parts), error=error)


class EditTest(BenchCase):
    def test_each_edit(self):
        bench = right_bench(*LETTERS)
        self.assertEqual(bench.add(("aa", "ab")), 1)
        self.assertEqual(bench.turn(1), 2)
        self.assertEqual(bench.drop(0), 3)
        self.assertEqual(bench.change(0, ("ba", "bb")), 4)
        self.assertEqual(bench.lift(0), 5)
        self.assertEqual(bench.drop_fewest(), 6)
        self.assertEqual(bench.rule, (("ba", "bb"),))
        bench += ("aa", "ab")
        bench[1] = ("ab", "aa")
        bench -= 0
        self.assertEqual((bench.rule, len(bench)), ((("ab", "aa"),), 9))

    def test_each_edit_faulty(self):
        """Each of the edits, by its method and by its sign."""
        def put(at, worth):
            bench[at] = worth

        def minus(worth):
            held = bench
            held -= worth

        bench = right_bench(("a", "b"))
        bench.attempt([("add", ("ab", "ba")), ("add", ("aa", "bb"))])
        bench.add(("bab", "aba"))
        # The first pair hides the other ones; without it, behind one of them or otherwise they are not right.
        rule = bench.rule
        cases = (
            (lambda: bench.drop(0), rule[1:]), (lambda: minus(0), rule[1:]), (lambda: bench.lift(1), (rule[1], rule[0], *rule[2:])),
            (lambda: bench.change(0, ("aab", "baa")), (("aab", "baa"), *rule[1:])),
            (lambda: put(0, ("aab", "baa")), (("aab", "baa"), *rule[1:])),
        )
        for call, wanted in cases:
            self.assertIsNotNone(fault(EVERY, "+-", wanted))
            self.assert_refused(bench, Faulty, call, fault=fault(EVERY, "+-", wanted))

    def test_faulty_add(self):
        def plus(worth):
            held = bench
            held += worth

        bench = right_bench()
        for pair in (("ab", "ba"), ("aab", "aba"), ("ab", "bb"), ("aa", "bb")):
            wanted = fault(EVERY, "+-", (pair,))
            self.assertIsNotNone(wanted)
            self.assert_refused(bench, Faulty, lambda: bench.add(pair), fault=wanted)
            self.assert_refused(bench, Faulty, lambda: plus(pair), fault=wanted)

    def test_turn_never_makes_it_wrong(self):
        bench = right_bench(*RIGHT)
        self.assertEqual([bench.turn(0), bench.turn(1)], [1, 2])

    def test_other_errors_come_first(self):
        bench = right_bench(*LETTERS)
        self.assert_refused(bench, NoPair, lambda: bench.drop(1), index=1)
        self.assert_refused(bench, NoPair, lambda: bench.change(1, ("ab", "ba")), index=1)
        self.assert_refused(bench, BadRule, lambda: bench.change(0, ("ab", "bbb")), error=(0, "pair"))
        self.assert_refused(bench, BadRule, lambda: bench.add(("b", "c")), error=(1, "pair"))
        while len(bench) < MAX_EDITS:
            bench.turn(0)
        self.assert_refused(bench, TooManyEdits, lambda: bench.change(0, ("ab", "ba")))
        self.assert_refused(bench, TooManyEdits, lambda: bench.attempt([("change", 0, ("ab", "ba"))]))

    def test_faulty_does_not_forget(self):
        bench = right_bench(*LETTERS)
        bench.add(("aa", "ab"))
        bench.turn(1)
        bench.undo()
        self.assert_refused(bench, Faulty, lambda: bench.change(0, ("aab", "bba")), fault=("abb", "back"))
        self.assert_refused(
            bench, Faulty, lambda: bench.attempt([("drop", 0), ("change", 0, ("ab", "ba"))]), fault=("ab", "sign"))
        self.assertEqual(bench.redo(), 2)
        self.assertEqual(bench.rule, (("a", "b"), ("ab", "aa")))


class AttemptTest(BenchCase):
    def test_only_the_end_is_asked(self):
        bench = right_bench(*LETTERS)
        seen = []
        items = [("drop", 0), ("add", ("ab", "bb")), ("turn", 0), ("change", 0, ("aa", "bb")), ("change", 0, ("aa", "ab"))]
        self.assertEqual(bench.attempt(items, watch=lambda held: seen.append(held.verdict())), 5)
        self.assertEqual(seen, [None, ("aab", "back"), ("aab", "back"), ("aa", "sign"), None])
        self.assertEqual(bench.rule, (("aa", "ab"),))

    def test_faulty_in_the_end(self):
        bench = right_bench(*LETTERS)
        bench.turn(0)
        bench.undo()
        wrong = ("change", 0, ("ab", "bb"))
        for items in ([wrong], [("turn", 0), wrong], [wrong, ("turn", 0)]):
            self.assert_refused(bench, Faulty, lambda: bench.attempt(items), fault=("aab", "back"))
            self.assert_refused(bench, Faulty, lambda: bench.attempt(tuple(items), watch=lambda held: None),
                                fault=("aab", "back"))
        self.assertEqual(bench.redo(), 1)

    def test_where_a_watch_has_ended_it(self):
        bench = right_bench(*LETTERS)
        items = [("turn", 0), ("change", 0, ("ab", "bb")), ("change", 0, ("aa", "ab"))]
        self.assert_refused(bench, Faulty, lambda: bench.attempt(items, watch=lambda held: held[0] == ("ab", "bb")),
                            fault=("aab", "back"))
        self.assertEqual(bench.attempt(items, watch=lambda held: held[0] == ("b", "a")), 1)
        self.assertEqual(bench.attempt(items[1:]), 2)

    def test_behind_rejected_and_what_a_watch_raises(self):
        bench = right_bench(*LETTERS)
        wrong = ("change", 0, ("ab", "bb"))

        def fail(error):
            raise error

        self.assert_refused(bench, Rejected, lambda: bench.attempt([wrong, ("drop", 1)]), index=1)
        self.assert_refused(bench, Rejected, lambda: bench.attempt([wrong, wrong, ("add", ("b", "c"))]), index=2)
        for error in (Wrong(), Odd(), KeyError()):
            self.assert_refused(bench, type(error), lambda: bench.attempt([wrong], watch=lambda held: fail(error)))
            self.assert_refused(bench, type(error), lambda: bench.attempt([wrong], watch=lambda held: Truth(True, error)))
        self.assert_refused(bench, BadEdits, lambda: bench.attempt(None))
        self.assert_refused(bench, BadEdit, lambda: bench.attempt([wrong, ("drop",)]), index=1)

    def test_busy(self):
        bench = right_bench(*LETTERS)

        def watch(held):
            self.assertEqual(held.verdict(), ("aab", "back"))
            self.assertRaises(Busy, held.change, 0, ("ab", "bb"))
            self.assertRaises(Busy, held.attempt, [("change", 0, ("ab", "bb"))])
            self.assertRaises(Busy, held.undo)

        self.assert_refused(
            bench, Faulty, lambda: bench.attempt([("change", 0, ("ab", "bb"))], watch=watch), fault=("aab", "back"))
        self.assertEqual(bench.turn(0), 1)


class UndoTest(BenchCase):
    def test_never_faulty(self):
        bench = right_bench(*LETTERS)
        items = [("change", 0, ("ab", "ba")), ("change", 0, ("aa", "ab"))]
        bench.attempt(items)
        bench.add(("ba", "bb"))
        rules = [LETTERS, (("aa", "ab"),), (("aa", "ab"), ("ba", "bb"))]
        for version in (1, 0):
            self.assertEqual((bench.undo(), bench.rule), (version, rules[version]))
        self.assert_refused(bench, NothingToUndo, bench.undo)
        for version in (1, 2):
            self.assertEqual((bench.redo(), bench.rule), (version, rules[version]))
        self.assert_refused(bench, NothingToRedo, bench.redo)

    def test_always_right(self):
        """Any edits, undos and redos: each version is right, and what is refused would not have been."""
        chance = random.Random(1)
        refused = done = 0
        pieces = ["".join(parts) for length in (1, 2) for parts in itertools.product("abc", repeat=length)]
        for _ in range(40):
            bench = RightBench(every(3), "+-+")
            for _ in range(40):
                item = chance.choice((
                    ("add", (chance.choice(pieces), chance.choice(pieces))), ("drop", chance.randint(0, 2)),
                    ("change", chance.randint(0, 2), (chance.choice(pieces), chance.choice(pieces))),
                    ("lift", chance.randint(0, 2)), ("turn", chance.randint(0, 2)), ("undo",), ("redo",), ("drop_fewest",),
                ))
                plain = Bench(bench.kind, bench.signs, bench.rule)
                before = self.seen(bench)
                try:
                    edit(bench, *item)
                    done += 1
                except Faulty as error:
                    edit(plain, *item)
                    self.assertEqual(error.fault, plain.verdict())
                    self.assertIsNotNone(error.fault)
                    self.assertEqual(self.seen(bench), before)
                    refused += 1
                except (NoPair, BadRule, NothingToUndo, NothingToRedo, TooManyEdits):
                    self.assertEqual(self.seen(bench), before)
                self.assertIsNone(bench.verdict())
                for version in range(len(bench) + 1):
                    self.assertIsNone(fault(bench.kind, bench.signs, bench.state(version=version)))
            again = RightBench(every(3), "+-+")
            for name, *values in bench.edits():
                edit(again, name, *values)
            self.assertTrue(again == bench)
        self.assertGreater(refused, 50)
        self.assertGreater(done, 200)


if __name__ == "__main__":
    unittest.main()
