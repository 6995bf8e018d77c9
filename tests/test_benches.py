"""Benches: Bench, with its edits, undo and redo, attempts and queries."""

import copy
import random
import unittest

from pairedaway import bounds
from pairedaway.benches import Bench, RightBench
from pairedaway.bounds import BATCH, MAX_EDITS, MAX_LENGTH, MAX_PAIRS
from pairedaway.consoles import Console
from pairedaway.errors import (
    BadEdit, BadEdits, BadLength, BadRule, BadScheme, BadWord, NoPair, NothingToRedo, NothingToUndo, NoVersion,
    Rejected, TooManyEdits,
)
from pairedaway.lefts import left_of
from pairedaway.rules import change, rule_error
from pairedaway.texts import scheme_error
from pairedaway.verdicts import fault, fewest_drop
from pairedaway.weighing import signed
from tests.helpers import any_machine, any_rule, every, is_plain, ring
from tests.values import ANY, KIND, SCHEME

EVERY = every(2)
RULE = (("ab", "ba"), ("a", "b"), ("aab", "bba"))
SIX = (("a", "b"), ("aa", "bb"), ("ab", "ba"), ("aaa", "aab"), ("aba", "abb"), ("baa", "bab"))
EDITS = ("add", "drop", "change", "lift", "turn")


class BenchCase(unittest.TestCase):
    """Checks that several tests of benches need."""

    def seen(self, bench):
        """All that a bench tells of itself."""
        return (
            bench.kind, bench.signs, bench.rule, len(bench), str(bench), bench.edits(), bench.verdict(),
            tuple(bench.state(version=version) for version in range(len(bench) + 1)), bench.state(), bench.signed(3),
            bench.left(3), bench.changed("ab"),
        )

    def assert_raises(self, kind, call, **fields):
        with self.assertRaises(kind) as caught:
            call()
        self.assertIs(type(caught.exception), kind)
        self.assertEqual(vars(caught.exception), fields)

    def assert_refused(self, bench, kind, call, **fields):
        """The call raises this very error, and the bench is as it was, also with regard to redo."""
        before = self.seen(bench)
        self.assert_raises(kind, call, **fields)
        self.assertEqual(self.seen(bench), before)


def bench_of(*rule):
    return Bench(EVERY, "+-", rule)


def edit(bench, name, *values):
    """Do an edit by its method."""
    return getattr(bench, name)(*values)


def told_edit(rule, name, *values):
    """What an edit that raises no error makes of a rule, told once more on a list."""
    pairs = list(rule)
    if name == "add":
        pairs.append(values[0])
    elif name == "drop":
        pairs.pop(values[0])
    elif name == "change":
        pairs[values[0]] = values[1]
    elif name == "lift" and values[0] > 0:
        pairs.insert(values[0] - 1, pairs.pop(values[0]))
    elif name == "turn":
        pairs[values[0]] = pairs[values[0]][::-1]
    return tuple(pairs)


class ExampleTest(BenchCase):
    def test_edits(self):
        bench = Bench(EVERY, "+-", (("ab", "bb"),))
        self.assertEqual(bench.verdict(), ("aab", "back"))
        self.assertEqual(bench.change(0, ("a", "b")), 1)
        self.assertIsNone(bench.verdict())
        self.assertEqual(bench.add(("aa", "ba")), 2)
        self.assertEqual(bench.lift(1), 3)
        self.assertEqual(bench.rule, (("aa", "ba"), ("a", "b")))
        self.assertEqual(bench.changed("ab"), (0, 1, "bb"))

    def test_undo_and_redo(self):
        bench = Bench(EVERY, "+-", (("ab", "ba"), ("a", "b")))
        self.assertEqual(bench.drop_fewest(), 1)
        self.assertEqual(bench.rule, (("a", "b"),))
        self.assertEqual(bench.undo(), 0)
        self.assertEqual(len(bench.rule), 2)
        self.assertEqual(bench.redo(), 1)
        self.assertEqual(bench.turn(0), 2)
        self.assertEqual(bench.rule, (("b", "a"),))
        self.assertEqual(bench.edits(), (("drop_fewest",), ("turn", 0)))

    def test_attempt(self):
        bench = Bench(every(3), "+-+")
        items = [("add", ("a", "b")), ("add", ("ca", "cc")), ("drop", 0)]
        self.assertEqual(bench.attempt(items, watch=lambda held: len(held.rule) == 2), 2)
        self.assertEqual(bench.rule, (("a", "b"), ("ca", "cc")))
        self.assertEqual(len(bench), 1)
        self.assertEqual(bench.undo(), 0)
        self.assertEqual(bench.rule, ())


class MakeTest(BenchCase):
    def test_attributes(self):
        bench = Bench(KIND, "+-", RULE)
        self.assertEqual((bench.kind, bench.signs, bench.rule), (KIND, "+-", RULE))
        self.assertTrue(is_plain((bench.kind, bench.signs, bench.rule)))
        self.assertEqual(Bench(KIND, "+-").rule, ())
        self.assertEqual(Bench(kind=KIND, signs="-+", rule=RULE).signs, "-+")

    def test_most_edits(self):
        self.assertEqual(Bench.MOST_EDITS, 60)
        self.assertIs(type(Bench.MOST_EDITS), int)
        self.assertEqual(Bench.MOST_EDITS, MAX_EDITS)
        self.assertEqual(bench_of().MOST_EDITS, MAX_EDITS)
        self.assertEqual(RightBench.MOST_EDITS, MAX_EDITS)

    def test_methods_stand_in_the_class(self):
        for name in ("__init__", "__getitem__", "__setitem__", "__iadd__", "__isub__", "__len__", "__str__", "__eq__", *EDITS,
                     "drop_fewest", "undo", "redo", "attempt", "verdict", "changed", "signed", "left", "state", "edits"):
            self.assertIn(name, vars(Bench))
        self.assertEqual((Bench.__module__, RightBench.__module__), ("pairedaway.benches",) * 2)
        self.assertTrue(issubclass(RightBench, Bench))

    def test_no_schemes(self):
        for value in ANY:
            for parts in ((value, "+-", RULE), (KIND, value, RULE), (KIND, "+-", value), (value, value, value)):
                error = scheme_error(parts)
                if error is None:
                    self.assertEqual(Bench(*parts).rule, parts[2])
                else:
                    self.assert_raises(BadScheme, lambda: Bench(*parts), error=error)
        self.assert_raises(BadScheme, lambda: Bench(ring(9), "+"), error=("kind", "states"))
        self.assert_raises(BadScheme, lambda: Bench(None, None, None), error=("kind", "machine"))
        self.assert_raises(BadScheme, lambda: Bench(KIND, "+", None), error=("signs", None))
        self.assert_raises(BadScheme, lambda: Bench(KIND, "+-", list(RULE)), error=("rule", (None, "rule")))

    def test_benches_do_not_share(self):
        one, other = bench_of(), bench_of()
        one.add(("a", "b"))
        self.assertEqual((other.rule, len(other), other.edits()), ((), 0, ()))


class EditTest(BenchCase):
    def assert_edit(self, bench, name, *values):
        rule, version, edits = bench.rule, len(bench), bench.edits()
        self.assertEqual(edit(bench, name, *values), version + 1)
        self.assertIs(type(len(bench)), int)
        self.assertEqual(bench.rule, told_edit(rule, name, *values))
        self.assertTrue(is_plain(bench.rule))
        self.assertEqual((bench.kind, bench.signs), (EVERY, "+-"))
        self.assertEqual(len(bench), version + 1)
        self.assertEqual(bench.edits(), (*edits, (name, *values)))
        self.assertTrue(is_plain(bench.edits()))
        self.assertEqual(bench.state(version=version), rule)

    def test_add(self):
        bench = bench_of()
        for many, pair in enumerate(SIX):
            self.assert_edit(bench, "add", pair)
            self.assertEqual(bench.rule, SIX[:many + 1])

    def test_drop(self):
        for index in range(3):
            self.assert_edit(bench_of(*RULE), "drop", index)
        bench = bench_of(*RULE)
        for _ in range(3):
            self.assert_edit(bench, "drop", 0)
        self.assertEqual(bench.rule, ())

    def test_change(self):
        for index in range(3):
            self.assert_edit(bench_of(*RULE), "change", index, ("aa", "bb"))
            # The pair itself again, its words turned, and one of them alone otherwise.
            self.assert_edit(bench_of(*RULE), "change", index, RULE[index])
            self.assert_edit(bench_of(*RULE), "change", index, RULE[index][::-1])
        self.assert_edit(bench_of(("ab", "ba")), "change", 0, ("ab", "bb"))
        self.assert_edit(bench_of(*SIX), "change", 5, ("bba", "bbb"))

    def test_lift(self):
        for index in range(3):
            self.assert_edit(bench_of(*RULE), "lift", index)
        self.assertEqual(told_edit(RULE, "lift", 2), (RULE[0], RULE[2], RULE[1]))
        bench = bench_of(*RULE)
        bench.lift(2)
        bench.lift(1)
        self.assertEqual(bench.rule, (RULE[2], RULE[0], RULE[1]))

    def test_lift_of_the_first_is_an_edit(self):
        bench = bench_of(*RULE)
        self.assertEqual(bench.lift(0), 1)
        self.assertEqual((bench.rule, bench.edits()), (RULE, (("lift", 0),)))
        bench.undo()
        self.assertEqual((bench.rule, len(bench), bench.redo()), (RULE, 0, 1))

    def test_turn(self):
        for index in range(3):
            self.assert_edit(bench_of(*RULE), "turn", index)
        bench = bench_of(*RULE)
        bench.turn(1)
        self.assertEqual(bench.rule, (("ab", "ba"), ("b", "a"), ("aab", "bba")))

    def test_no_pair(self):
        for rule in ((), RULE):
            for value in (*ANY, len(rule), len(rule) + 1, -1, -len(rule), 10 ** 59, [0], (0,), True, False, None, "0"):
                if type(value) is int and 0 <= value < len(rule):
                    continue
                bench = bench_of(*rule)
                for name, rest in (("drop", ()), ("change", (("aa", "bb"),)), ("change", (None,)), ("lift", ()), ("turn", ())):
                    self.assert_refused(bench, NoPair, lambda: edit(bench, name, value, *rest), index=value)
                self.assert_refused(bench, NoPair, lambda: bench[value], index=value)

    def test_no_pair_has_the_very_value(self):
        value = [1]
        with self.assertRaises(NoPair) as caught:
            bench_of().drop(value)
        self.assertIs(caught.exception.index, value)

    def test_bad_rule(self):
        for rule in ((), RULE, SIX[:5], SIX):
            for value in (*ANY, ("a", "c"), ("ab", "b"), ("a", "b"), ("b", "a"), ["a", "b"], ("aaaa", "bbbb"), ("", ""),
                          ("bba", "bbb"), ("aa", "aa")):
                bench = bench_of(*rule)
                error = rule_error(2, (*rule, value))
                if error is None:
                    self.assertEqual(bench.add(value), 1)
                else:
                    self.assert_refused(bench, BadRule, lambda: bench.add(value), error=error)
                for index in range(len(rule)):
                    bench = bench_of(*rule)
                    error = rule_error(2, (*rule[:index], value, *rule[index + 1:]))
                    if error is None:
                        self.assertEqual(bench.change(index, value), 1)
                    else:
                        self.assert_refused(bench, BadRule, lambda: bench.change(index, value), error=error)

    def test_bad_rule_told(self):
        bench = bench_of(*SIX)
        self.assert_refused(bench, BadRule, lambda: bench.add(("bba", "bbb")), error=(None, "many"))
        self.assert_refused(bench, BadRule, lambda: bench.add(("bba", "aaa")), error=(6, "pair"))
        self.assert_refused(bench, BadRule, lambda: bench.change(0, ("b", "c")), error=(0, "pair"))
        # The word stands ahead of the pair that has it, too.
        self.assert_refused(bench, BadRule, lambda: bench.change(0, ("aa", "ab")), error=(1, "pair"))
        self.assert_refused(bench, NoPair, lambda: bench.change(6, ("b", "c")), index=6)

    def test_later_changes_to_arguments(self):
        items = [("add", ("a", "b")), ("turn", 0)]
        bench = bench_of()
        bench.attempt(items)
        items.append(("drop", 0))
        items[0] = None
        self.assertEqual(bench.edits(), (("attempt", (("add", ("a", "b")), ("turn", 0))),))
        values = [EVERY, "+-", (("a", "b"),)]
        bench = Bench(*values)
        values[2] = ()
        self.assertEqual(bench.rule, (("a", "b"),))


class SignsTest(BenchCase):
    """bench[index], bench[index] = pair, bench += pair, bench -= index."""

    def test_items(self):
        bench = bench_of(*RULE)
        self.assertEqual([bench[index] for index in range(3)], list(RULE))
        self.assertEqual(len(bench), 0)
        for value in (3, -1, True, None, "0", 10 ** 59):
            self.assert_refused(bench, NoPair, lambda: bench[value], index=value)

    def test_setting_an_item(self):
        bench = bench_of(*RULE)
        bench[1] = ("aa", "bb")
        self.assertEqual(bench.rule, (RULE[0], ("aa", "bb"), RULE[2]))
        self.assertEqual(bench.edits(), (("change", 1, ("aa", "bb")),))
        self.assertEqual(bench[1], ("aa", "bb"))

        def put(at, worth):
            bench[at] = worth

        self.assert_refused(bench, NoPair, lambda: put(3, None), index=3)
        self.assert_refused(bench, BadRule, lambda: put(0, None), error=(0, "pair"))
        self.assert_refused(bench, BadRule, lambda: put(2, ("aa", "ab")), error=(2, "pair"))

    def test_plus_and_minus(self):
        bench = same = bench_of()
        bench += ("a", "b")
        self.assertIs(bench, same)
        bench += ("ab", "ba")
        bench -= 0
        self.assertIs(bench, same)
        self.assertEqual(bench.rule, (("ab", "ba"),))
        self.assertEqual(bench.edits(), (("add", ("a", "b")), ("add", ("ab", "ba")), ("drop", 0)))

        def plus(value):
            held = bench
            held += value

        def minus(value):
            held = bench
            held -= value

        self.assert_refused(bench, BadRule, lambda: plus(None), error=(1, "pair"))
        self.assert_refused(bench, BadRule, lambda: plus(("ab", "aa")), error=(1, "pair"))
        self.assert_refused(bench, NoPair, lambda: minus(1), index=1)
        self.assert_refused(bench, NoPair, lambda: minus(None), index=None)

    def test_held_in_a_list(self):
        benches = [bench_of()]
        first = benches[0]
        benches[0] += ("a", "b")
        benches[0] -= 0
        self.assertIs(benches[0], first)
        self.assertEqual(len(first), 2)


class DropFewestTest(BenchCase):
    def test_any(self):
        chance = random.Random(1)
        for _ in range(150):
            letters = chance.choice((2, 3))
            kind = any_machine(chance, chance.choice((1, 2, 3)), letters, 0.1, 0.7)
            signs = "".join(chance.choice("+-") for _ in range(letters))
            rule = any_rule(chance, letters, MAX_PAIRS, (1, 2, 3))
            dropped = fewest_drop(kind, signs, rule)
            bench = Bench(kind, signs, rule)
            self.assertEqual(bench.drop_fewest(), 1)
            self.assertEqual(bench.rule, tuple(pair for index, pair in enumerate(rule) if index not in dropped))
            self.assertIsNone(bench.verdict())
            self.assertEqual(bench.edits(), (("drop_fewest",),))
            self.assertTrue(is_plain(bench.rule))
            # What is right already loses nothing, but this is an edit.
            left = bench.rule
            self.assertEqual(bench.drop_fewest(), 2)
            self.assertEqual(bench.rule, left)
            bench.undo()
            bench.undo()
            self.assertEqual(bench.rule, rule)
            bench.redo()
            self.assertEqual(bench.rule, left)


class UndoTest(BenchCase):
    def test_nothing(self):
        bench = bench_of(*RULE)
        self.assert_refused(bench, NothingToUndo, bench.undo)
        self.assert_refused(bench, NothingToRedo, bench.redo)
        bench.turn(0)
        self.assert_refused(bench, NothingToRedo, bench.redo)
        bench.undo()
        self.assert_refused(bench, NothingToUndo, bench.undo)
        bench.redo()
        self.assert_refused(bench, NothingToRedo, bench.redo)

    def test_any_order(self):
        bench = bench_of()
        rules = [()]
        for pair in SIX:
            bench.add(pair)
            rules.append(bench.rule)
        chance = random.Random(2)
        at = len(SIX)
        for _ in range(200):
            if chance.random() < 0.5:
                if at == 0:
                    self.assert_refused(bench, NothingToUndo, bench.undo)
                    continue
                at -= 1
                self.assertEqual(bench.undo(), at)
            else:
                if at == len(SIX):
                    self.assert_refused(bench, NothingToRedo, bench.redo)
                    continue
                at += 1
                self.assertEqual(bench.redo(), at)
            self.assertEqual((bench.rule, len(bench), len(bench.edits())), (rules[at], at, at))

    def test_new_edits_forget(self):
        edits = (
            lambda bench: bench.add(("bb", "aa")), lambda bench: bench.drop(0), lambda bench: bench.lift(0),
            lambda bench: bench.change(0, bench[0]), lambda bench: bench.turn(0), lambda bench: bench.drop_fewest(),
            lambda bench: bench.attempt([("lift", 0)]), lambda bench: bench.attempt([("lift", 0)], watch=lambda held: True),
        )
        for one in edits:
            bench = bench_of(*RULE)
            bench.turn(0)
            bench.turn(1)
            bench.undo()
            one(bench)
            self.assert_refused(bench, NothingToRedo, bench.redo)
            self.assertEqual(len(bench), 2)

    def test_refused_edits_do_not_forget(self):
        def fail(held):
            raise KeyError(1)

        refused = (
            (BadRule, lambda bench: bench.add(None)), (NoPair, lambda bench: bench.drop(9)),
            (NoPair, lambda bench: bench.lift(None)), (NoPair, lambda bench: bench.turn(-1)),
            (BadRule, lambda bench: bench.change(0, None)), (Rejected, lambda bench: bench.attempt([("drop", 0), ("drop", 9)])),
            (BadEdits, lambda bench: bench.attempt(None)), (BadEdit, lambda bench: bench.attempt([("drop", 0), None])),
            (KeyError, lambda bench: bench.attempt([("drop", 0)], watch=fail)), (BadWord, lambda bench: bench.changed("c")),
            (BadLength, lambda bench: bench.left(-1)), (NoVersion, lambda bench: bench.state(version=9)),
        )
        for kind, call in refused:
            bench = bench_of(*RULE)
            bench.turn(0)
            bench.turn(1)
            turned = bench.rule
            bench.undo()
            self.assertRaises(kind, call, bench)
            self.assertEqual(bench.attempt([]), 0)
            self.assertEqual(bench.attempt(()), 0)
            self.assertEqual(bench.redo(), 2)
            self.assertEqual(bench.rule, turned)

    def test_attempt_is_put_back_without_its_watch(self):
        asked = []
        bench = bench_of()
        items = (("add", ("a", "b")), ("turn", 0), ("drop", 0))
        self.assertEqual(bench.attempt(items, watch=lambda held: asked.append(1) or len(asked) == 2), 2)
        self.assertEqual(bench.undo(), 0)
        self.assertEqual(bench.rule, ())
        self.assertEqual(bench.redo(), 1)
        self.assertEqual((bench.rule, len(asked)), ((("b", "a"),), 2))
        self.assertEqual(bench.edits(), (("attempt", items[:2]),))


class MostEditsTest(BenchCase):
    def full(self):
        bench = bench_of(*RULE)
        for number in range(MAX_EDITS):
            self.assertEqual(bench.turn(number % 3), number + 1)
        return bench

    def test_sixty(self):
        bench = self.full()
        self.assertEqual((len(bench), len(bench.edits()), bench.rule), (60, 60, RULE))
        self.assertEqual(str(bench), "1 states, 3 pairs, 60 edits")
        self.assertEqual([bench.state(version=version) == RULE for version in (0, 1, 60)], [True, False, True])

    def test_too_many_ahead_of_wrong_values(self):
        bench = self.full()
        for call in (
            lambda: bench.add(("aa", "bb")), lambda: bench.add(None), lambda: bench.drop(0), lambda: bench.drop(None),
            lambda: bench.change(0, ("aa", "bb")), lambda: bench.change(9, None), lambda: bench.lift(0), lambda: bench.lift("0"),
            lambda: bench.turn(0), lambda: bench.turn(-1), bench.drop_fewest, lambda: bench.__setitem__(9, None),
            lambda: bench.__iadd__(None), lambda: bench.__isub__(None), lambda: bench.attempt([("turn", 0)]),
            lambda: bench.attempt([("turn", 9)]), lambda: bench.attempt([("turn", 0)], watch=lambda held: 1 // 0),
        ):
            self.assert_refused(bench, TooManyEdits, call)

    def test_what_comes_ahead_of_too_many(self):
        bench = self.full()
        self.assert_refused(bench, BadEdits, lambda: bench.attempt(None))
        self.assert_refused(bench, BadEdits, lambda: bench.attempt([("turn", 0)] * 21))
        self.assert_refused(bench, BadEdit, lambda: bench.attempt([("turn", 0), ("undo",)]), index=1)
        self.assertEqual(bench.attempt([]), 0)
        self.assertEqual(bench.attempt((), watch=lambda held: 1 // 0), 0)

    def test_undo_makes_room(self):
        bench = self.full()
        self.assertEqual(bench.undo(), 59)
        self.assertEqual(bench.redo(), 60)
        self.assertEqual(bench.undo(), 59)
        self.assertEqual(bench.attempt([("turn", 0)] * BATCH), 20)
        self.assertEqual(len(bench), 60)
        self.assert_refused(bench, TooManyEdits, lambda: bench.turn(0))
        self.assert_refused(bench, NothingToRedo, bench.redo)

    def test_batches_count_once(self):
        bench = bench_of(*RULE)
        for number in range(MAX_EDITS):
            self.assertEqual(bench.attempt([("turn", 0)] * BATCH), BATCH)
            self.assertEqual(len(bench), number + 1)
        self.assert_refused(bench, TooManyEdits, lambda: bench.attempt([("turn", 0)]))


class QueryTest(BenchCase):
    def test_verdict(self):
        chance = random.Random(3)
        for _ in range(60):
            kind = any_machine(chance, chance.choice((1, 2)), 2, 0.1, 0.7)
            rule = any_rule(chance, 2, 3, (1, 2, 3))
            self.assertEqual(Bench(kind, "+-", rule).verdict(), fault(kind, "+-", rule))

    def test_changed(self):
        bench = bench_of(*RULE)
        for word in ("", "a", "ab", "aab", "bbbb", "ab" * 200, "b" * 400):
            self.assertEqual(bench.changed(word), change(RULE, word))
        self.assertIsNone(bench_of().changed("ab"))
        # Words that are not of the kind are changed as well.
        self.assertEqual(Bench((2, ((None, None),), (False,)), "+-", RULE).changed("ab"), (0, 0, "ba"))

    def test_bad_word(self):
        bench = bench_of(*RULE)
        for value in (*ANY, "c", "abc", "ab ", " ", "A", "a\n", "a" * 401, ["a"], ("a", "b"), "ab" * 1750, 0, None, True):
            if isinstance(value, str) and len(value) <= MAX_LENGTH and set(value) <= {"a", "b"}:
                self.assertEqual(bench.changed(value), change(RULE, value))
            else:
                self.assert_refused(bench, BadWord, lambda: bench.changed(value), word=value)
        self.assertIsNone(Bench(every(4), "++++").changed("abcd"))
        self.assert_raises(BadWord, lambda: Bench(every(3), "+++").changed("abcd"), word="abcd")

    def test_signed_and_left(self):
        for kind, signs, rule in ((EVERY, "+-", RULE), (KIND, "-+", RULE[:1]), (KIND, "+-", ()), (every(1), "-", ())):
            bench = Bench(kind, signs, rule)
            for length in (*range(9), 100, MAX_LENGTH):
                self.assertEqual(bench.signed(length), signed(kind, signs, length))
                self.assertEqual(bench.left(length), signed(left_of(kind, rule), signs, length))
                self.assertIs(type(bench.left(length)), int)

    def test_bad_length(self):
        bench = bench_of(*RULE)
        for value in (*ANY, -1, 401, 10 ** 59, -(10 ** 59), True, False, None, "3", [3]):
            if type(value) is not int or not 0 <= value <= MAX_LENGTH:
                self.assert_refused(bench, BadLength, lambda: bench.signed(value), length=value)
                self.assert_refused(bench, BadLength, lambda: bench.left(value), length=value)

    def test_state(self):
        bench = bench_of()
        for number, pair in enumerate(SIX):
            bench.add(pair)
            self.assertEqual([bench.state(version=version) for version in range(number + 2)],
                             [SIX[:version] for version in range(number + 2)])
            self.assertEqual(bench.state(), bench.rule)
            self.assertEqual(bench.state(version=None), bench.rule)
        for value in (*ANY, -1, 7, True, False, "1", [1], 10 ** 59):
            if value is not None and (type(value) is not int or not 0 <= value <= 6):
                self.assert_refused(bench, NoVersion, lambda: bench.state(version=value), version=value)
        bench.undo()
        self.assert_refused(bench, NoVersion, lambda: bench.state(version=6), version=6)
        self.assertRaises(TypeError, bench.state, 1)

    def test_no_version_and_no_pair_are_lookup_errors(self):
        self.assertRaises(LookupError, bench_of().state, version=1)
        self.assertRaises(LookupError, bench_of().drop, 0)

    def test_edits(self):
        bench = bench_of(*RULE)
        self.assertEqual(bench.edits(), ())
        bench.lift(1)
        bench.attempt([("turn", 0), ("change", 1, ("aa", "bb"))])
        bench.drop_fewest()
        bench.undo()
        bench[0] = ("b", "a")
        told = (("lift", 1), ("attempt", (("turn", 0), ("change", 1, ("aa", "bb")))), ("change", 0, ("b", "a")))
        self.assertEqual(bench.edits(), told)
        self.assertTrue(is_plain(bench.edits()))


class LenStrEqualTest(BenchCase):
    def test_len_and_truth(self):
        bench = bench_of(*RULE)
        self.assertFalse(bench)
        bench.turn(0)
        self.assertTrue(bench)
        self.assertEqual(len(bench), 1)
        bench.undo()
        self.assertFalse(bench)

    def test_str(self):
        self.assertEqual(str(Bench(every(1), "+")), "1 states, 0 pairs, 0 edits")
        bench = Bench(ring(8, 2), "+-", SIX)
        self.assertEqual(str(bench), "8 states, 6 pairs, 0 edits")
        bench.drop(0)
        bench.drop(0)
        self.assertEqual(str(bench), "8 states, 4 pairs, 2 edits")
        bench.undo()
        self.assertEqual(f"{bench}", "8 states, 5 pairs, 1 edits")

    def test_equal(self):
        one, other = bench_of(*RULE), bench_of(*RULE)
        self.assertTrue(one == other)
        self.assertFalse(one != other)
        other.turn(0)
        self.assertFalse(one == other)
        self.assertTrue(one != other)
        other.turn(0)
        # Whatever their edits.
        self.assertTrue(one == other)
        self.assertTrue(one == one)
        for unlike in (Bench(KIND, "+-", RULE), Bench(EVERY, "--", RULE), Bench(EVERY, "+-", RULE[:2]),
                       Bench(EVERY, "+-", RULE[::-1])):
            self.assertFalse(one == unlike)
            self.assertTrue(unlike != one)

    def test_right_benches(self):
        rule = (("a", "b"),)
        plain, right, again = Bench(EVERY, "+-", rule), RightBench(EVERY, "+-", rule), RightBench(EVERY, "+-", rule)
        self.assertTrue(right == again)
        self.assertFalse(right != again)
        for one, other in ((plain, right), (right, plain)):
            self.assertFalse(one == other)
            self.assertTrue(one != other)

    def test_nothing_else_is_equal(self):
        bench = bench_of(*RULE)

        class Yes:
            def __eq__(self, other):
                return True

        for value in (*ANY, bench.rule, str(bench), 0, Console(bench), Yes()):
            self.assertFalse(bench == value)
            self.assertTrue(bench != value)


class ManyEditsTest(BenchCase):
    def test_against_a_new_bench(self):
        """After any edits, undos and redos: the items of edits() done one after another on a new bench."""
        chance = random.Random(4)
        for _ in range(60):
            letters = chance.choice((2, 3))
            kind = any_machine(chance, chance.choice((1, 2)), letters, 0.1, 0.7)
            signs = "".join(chance.choice("+-") for _ in range(letters))
            rule = any_rule(chance, letters, chance.randint(0, 4), (1, 2, 3))
            bench = Bench(kind, signs, rule)
            standing, removed = [rule], []
            for _ in range(60):
                self.step(chance, bench, standing, removed)
                self.assertEqual(bench.rule, standing[-1])
                self.assertEqual([bench.state(version=version) for version in range(len(bench) + 1)], standing)
            again = Bench(kind, signs, rule)
            for name, *values in bench.edits():
                edit(again, name, *values)
            self.assertEqual(again.rule, bench.rule)
            self.assertTrue(again == bench)
            self.assertEqual(again.edits(), bench.edits())
            self.assertEqual(self.seen(again), self.seen(bench))

    def any_edit(self, chance, bench):
        letters = bench.kind[0]
        name = chance.choice(EDITS)
        index = chance.randint(0, max(0, len(bench.rule) - 1))
        pair = tuple("".join(chance.choice("abcd"[:letters]) for _ in range(2)) for _ in range(2))
        return {"add": ("add", pair), "change": ("change", index, pair)}.get(name, (name, index))

    def step(self, chance, bench, standing, removed):
        """One step by chance, done on a list of rules as well."""
        way = chance.random()
        try:
            if way < 0.2:
                bench.undo()
                removed.append(standing.pop())
            elif way < 0.35:
                bench.redo()
                standing.append(removed.pop())
            elif way < 0.4:
                bench.drop_fewest()
                self.stand(bench, standing, removed)
            elif way < 0.6:
                items = [self.any_edit(chance, bench) for _ in range(chance.randint(1, 3))]
                bench.attempt(items, watch=lambda held: chance.random() < 0.3)
                self.stand(bench, standing, removed)
            else:
                edit(bench, *self.any_edit(chance, bench))
                self.stand(bench, standing, removed)
        except (NothingToUndo, NothingToRedo, TooManyEdits, NoPair, BadRule, Rejected):
            pass

    def stand(self, bench, standing, removed):
        standing.append(bench.rule)
        removed.clear()

    def test_each_edit_against_lists(self):
        chance = random.Random(5)
        done = 0
        for _ in range(40):
            bench = Bench(every(3), "+-+", any_rule(chance, 3, 4, (1, 2, 3)))
            for _ in range(30):
                item = self.any_edit(chance, bench)
                before = bench.rule
                try:
                    edit(bench, *item)
                except (NoPair, BadRule):
                    self.assertEqual(bench.rule, before)
                else:
                    self.assertEqual(bench.rule, told_edit(before, *item))
                    self.assertIsNone(rule_error(3, bench.rule))
                    done += 1
        self.assertGreater(done, 400)

    def test_arguments_stay(self):
        values = copy.deepcopy(SCHEME)
        bench = Bench(*values)
        bench.turn(0)
        bench.attempt([("drop", 0)])
        self.assertEqual(values, SCHEME)

    def test_bounds(self):
        self.assertEqual((bounds.MAX_EDITS, bounds.BATCH, bounds.MAX_PAIRS), (60, 20, 6))


if __name__ == "__main__":
    unittest.main()
