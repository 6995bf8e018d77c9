"""Attempts: several edits as one, what a watch sees, and Busy."""

import random
import threading
import unittest

from pairedaway.benches import Bench, RightBench
from pairedaway.bounds import BATCH, MAX_EDITS
from pairedaway.consoles import Console
from pairedaway.errors import BadEdit, BadEdits, BadRule, Busy, NoPair, Rejected, TooManyEdits
from tests.helpers import every, is_plain
from tests.test_benches import EVERY, RULE, BenchCase, bench_of, told_edit
from tests.values import ANY, KIND

PAIR = ("aa", "bb")


class Wrong(Exception):
    """What a watch raises."""


class Odd(BaseException):
    """What a watch raises that is no plain exception."""


class Truth:
    """A result of a watch that counts how often it is asked whether it counts as true."""

    def __init__(self, answer, error=None):
        self.answer, self.error, self.asked = answer, error, 0

    def __bool__(self):
        self.asked += 1
        if self.error is not None:
            raise self.error
        return self.answer


class AttemptTest(BenchCase):
    def test_lists_and_tuples(self):
        items = [("add", PAIR), ("turn", 0), ("lift", 3), ("drop", 0), ("change", 0, ("ba", "ab"))]
        for edits in (items, tuple(items)):
            for watch in ({}, {"watch": None}):
                bench = bench_of(*RULE)
                self.assertEqual(bench.attempt(edits, **watch), 5)
                rule = RULE
                for item in items:
                    rule = told_edit(rule, *item)
                self.assertEqual(bench.rule, rule)
                self.assertEqual(bench.edits(), (("attempt", tuple(items)),))
                self.assertTrue(is_plain(bench.edits()))
                self.assertEqual((len(bench), bench.state(version=0), bench.undo(), bench.rule), (1, RULE, 0, RULE))

    def test_no_items(self):
        bench = bench_of(*RULE)
        bench.turn(0)
        bench.undo()
        for edits in ([], ()):
            self.assertEqual(bench.attempt(edits), 0)
            self.assertEqual(bench.attempt(edits, watch=lambda held: 1 // 0), 0)
            self.assertEqual((len(bench), bench.edits(), bench.rule), (0, (), RULE))
        self.assertEqual(bench.redo(), 1)

    def test_twenty_and_more(self):
        bench = bench_of(*RULE)
        self.assertEqual(bench.attempt([("turn", 0)] * 20), 20)
        self.assertEqual(bench.rule, RULE)
        self.assertEqual(len(bench.edits()[0][1]), 20)
        for many in (21, 22, 1000, 5999):
            self.assert_refused(bench, BadEdits, lambda: bench.attempt([("turn", 0)] * many))
            self.assert_refused(bench, BadEdits, lambda: bench.attempt((None,) * many))

    def test_bad_edits(self):
        bench = bench_of(*RULE)
        for value in ANY:
            if not isinstance(value, (list, tuple)) or len(value) > BATCH:
                self.assert_refused(bench, BadEdits, lambda: bench.attempt(value))
        for value in (None, {("turn", 0): 1}, "add", "", 0, True, {}):
            self.assert_refused(bench, BadEdits, lambda: bench.attempt(value))

    def test_bad_edit(self):
        bench = bench_of(*RULE)
        wrong = (
            *(value for value in ANY if value != ("add", ("a", "b"))),
            ("add",), ("add", PAIR, 1), ("drop",), ("drop", 0, 0), ("change", 0), ("change", 0, PAIR, 1), ("lift",), ("turn",),
            ("turn", 0, 0), ("undo",), ("redo",), ("drop_fewest",), ("attempt", ()), ("attempt", [("turn", 0)]), ("verdict",),
            ["add", PAIR], ["turn", 0], [("turn", 0)], ("Add", PAIR), ("add ", PAIR), (b"add", PAIR), (None, 0), (0, "turn"),
            ([], 0), ({}, 0), (("turn",), 0), ("", 0), ("addd", PAIR), ("text",), ("__len__",), ("rule", 0), "turn", ("turn 0",),
        )
        for value in wrong:
            self.assert_refused(bench, BadEdit, lambda: bench.attempt([value]), index=0)
            self.assert_refused(bench, BadEdit, lambda: bench.attempt((("turn", 0), value, None)), index=1)
            self.assert_refused(bench, BadEdit, lambda: bench.attempt([("turn", 9), ("turn", 0), value]), index=2)

    def test_bad_edit_ahead_of_what_is_wrong_with_the_values(self):
        bench = bench_of()
        self.assert_refused(bench, BadEdit, lambda: bench.attempt([("drop", 0), ("add", None), ("turn",)]), index=2)
        self.assert_refused(bench, BadEdits, lambda: bench.attempt([None] * 21))

    def test_rejected(self):
        bench = bench_of(*RULE)
        seen = []
        for at in range(4):
            for item in (("add", None), ("add", RULE[0]), ("drop", 3), ("drop", True), ("change", 0, ("a", "bb")),
                         ("change", None, PAIR), ("lift", -1), ("turn", "0"), ("turn", [0]), ("add", {"a": "b"})):
                items = [("turn", 0)] * at + [item, ("drop", 99)]
                self.assert_refused(bench, Rejected, lambda: bench.attempt(items), index=at)
                self.assert_refused(bench, Rejected, lambda: bench.attempt(items, watch=lambda held: seen.append(1)), index=at)
        self.assertEqual(len(seen), 60)

    def test_rejected_after_items_that_make_it_wrong(self):
        bench = bench_of(*RULE)
        self.assert_refused(bench, Rejected, lambda: bench.attempt([("drop", 0), ("drop", 0), ("drop", 0), ("drop", 0)]), index=3)
        self.assertEqual(bench.attempt([("drop", 0)] * 3), 3)
        self.assert_refused(bench, Rejected, lambda: bench.attempt([("add", PAIR), ("add", PAIR)]), index=1)
        self.assertEqual(bench.attempt([("add", PAIR), ("drop", 0), ("add", PAIR)]), 3)

    def test_rejected_behind_a_watch_that_has_ended_it(self):
        bench = bench_of(*RULE)
        items = [("turn", 0), ("drop", 9)]
        self.assertEqual(bench.attempt(items, watch=lambda held: True), 1)
        self.assertEqual(bench.edits(), (("attempt", (("turn", 0),)),))

    def test_too_many_behind_the_shape_of_the_items(self):
        bench = bench_of(*RULE)
        for _ in range(MAX_EDITS):
            bench.turn(0)
        self.assert_refused(bench, TooManyEdits, lambda: bench.attempt([("drop", 99)]))
        self.assert_refused(bench, BadEdit, lambda: bench.attempt([("drop", 99), ("drop",)]), index=1)

    def test_items_do_not_regard_the_most_edits(self):
        bench = bench_of(*RULE)
        for _ in range(MAX_EDITS - 1):
            bench.turn(0)
        self.assertEqual(bench.attempt([("turn", 0)] * BATCH), BATCH)
        self.assertEqual(len(bench), MAX_EDITS)

    def test_edits_are_copied_at_the_start(self):
        items = [("turn", 0), ("turn", 1)]

        def watch(held):
            items.clear()
            items.extend([None] * 30)

        bench = bench_of(*RULE)
        self.assertEqual(bench.attempt(items, watch=watch), 2)
        self.assertEqual(bench.edits(), (("attempt", (("turn", 0), ("turn", 1))),))


class WatchTest(BenchCase):
    def test_what_a_watch_sees(self):
        bench = bench_of(*RULE)
        bench.turn(2)
        before = bench.rule
        items = (("drop", 0), ("add", PAIR), ("turn", 0), ("lift", 2))
        rules = [before]
        for item in items:
            rules.append(told_edit(rules[-1], *item))
        seen = []

        def watch(held):
            self.assertIs(held, bench)
            done = len(seen) + 1
            self.assertEqual(held.rule, rules[done])
            self.assertEqual((len(held), str(held)), (2, f"1 states, {len(held.rule)} pairs, 2 edits"))
            self.assertEqual(held.edits(), (("turn", 2), ("attempt", items[:done])))
            self.assertEqual([held.state(version=version) for version in range(3)], [RULE, before, rules[done]])
            self.assertEqual((held.state(), held[0]), (held.rule, held.rule[0]))
            self.assertEqual((held.kind, held.signs), (EVERY, "+-"))
            same = Bench(EVERY, "+-", rules[done])
            self.assertTrue(held == same and bool(held))
            self.assertEqual((held.verdict(), held.changed("aab"), held.left(4), held.signed(4)),
                             (same.verdict(), same.changed("aab"), same.left(4), same.signed(4)))
            self.assertRaises(LookupError, held.state, version=3)
            seen.append(held.rule)

        self.assertEqual(bench.attempt(items, watch=watch), 4)
        self.assertEqual(seen, rules[1:])
        self.assertEqual((bench.rule, len(bench)), (rules[-1], 2))

    def test_a_watch_that_ends_it(self):
        for at in range(1, 5):
            for answer in (True, 1, "x", [0], Truth(True)):
                count = []

                def watch(held):
                    count.append(1)
                    return answer if len(count) == at else None

                bench = bench_of(*RULE)
                self.assertEqual(bench.attempt([("turn", 0)] * 4, watch=watch), at)
                self.assertEqual(len(count), at)
                self.assertEqual(bench.edits(), (("attempt", (("turn", 0),) * at),))

    def test_what_does_not_count_as_true(self):
        for answer in (None, False, 0, "", [], (), {}, Bench(EVERY, "+-"), Truth(False)):
            bench = bench_of(*RULE)
            self.assertEqual(bench.attempt([("turn", 0)] * 4, watch=lambda held: answer), 4)

    def test_truth_is_asked_once_after_each_item(self):
        answers = [Truth(False) for _ in range(4)]
        ahead = list(answers)
        bench = bench_of(*RULE)
        self.assertEqual(bench.attempt([("turn", 0)] * 4, watch=lambda held: ahead.pop(0)), 4)
        self.assertEqual([answer.asked for answer in answers], [1, 1, 1, 1])
        last = Truth(True)
        self.assertEqual(bench.attempt([("turn", 0)], watch=lambda held: last), 1)
        self.assertEqual(last.asked, 1)

    def test_a_watch_that_raises(self):
        for at in range(1, 4):
            for error in (Wrong(), Odd(), ValueError(), KeyError(1), NoPair(0), BadRule(None), Rejected(7), KeyboardInterrupt(),
                          GeneratorExit(), SystemExit(), StopIteration()):
                count = []

                def watch(held):
                    count.append(1)
                    if len(count) == at:
                        raise error

                bench = bench_of(*RULE)
                bench.turn(0)
                bench.turn(1)
                turned = bench.rule
                bench.undo()
                before = self.seen(bench)
                with self.assertRaises(type(error)) as caught:
                    bench.attempt([("drop", 0)] * 3, watch=watch)
                self.assertIs(caught.exception, error)
                self.assertEqual(self.seen(bench), before)
                # No watch runs any more, and redo is as it was.
                self.assertEqual((bench.redo(), bench.rule), (2, turned))
                self.assertEqual(bench.drop(0), 3)

    def test_truth_that_raises(self):
        for error in (Wrong(), Odd(), KeyError(2), NoPair(3), KeyboardInterrupt()):
            bench = bench_of(*RULE)
            bench.turn(0)
            bench.undo()
            before = self.seen(bench)
            answer = Truth(True, error)
            with self.assertRaises(type(error)) as caught:
                bench.attempt([("drop", 0)] * 3, watch=lambda held: answer)
            self.assertIs(caught.exception, error)
            self.assertEqual((self.seen(bench), answer.asked), (before, 1))
            self.assertEqual(bench.redo(), 1)

    def test_no_watch_at_all(self):
        self.assertRaises(TypeError, bench_of().attempt, [], None)


class BusyTest(BenchCase):
    def edits(self, bench, other):
        """All edits of a bench, right and wrong ones, by all ways."""
        console = Console(bench)

        def put():
            bench[0] = ("aa", "bb")

        def put_wrong():
            bench[99] = None

        def plus():
            held = bench
            held += None

        def minus():
            held = bench
            held -= 0

        return [
            lambda: bench.add(PAIR), lambda: bench.add(None), lambda: bench.drop(0), lambda: bench.drop(None),
            lambda: bench.change(0, PAIR), lambda: bench.change(99, None), lambda: bench.lift(1), lambda: bench.lift(-1),
            lambda: bench.turn(0), lambda: bench.turn("0"), bench.drop_fewest, bench.undo, bench.redo, put, put_wrong, plus,
            minus, lambda: bench.attempt([("turn", 0)]), lambda: bench.attempt([]), lambda: bench.attempt(None),
            lambda: bench.attempt([None]), lambda: bench.attempt([("turn", 0)], watch=lambda held: other.turn(0)),
        ], console

    def assert_busy(self, bench, asked):
        """asked is called while the watch runs, or while its result is asked."""
        other = Bench(EVERY, "+-", RULE)
        calls, console = self.edits(bench, other)
        lines = ("add aa bb", "drop 0", "drop 99", "change 0 aa bb", "lift 1", "turn 0", "fewest", "undo", "redo", "add c d")

        def check():
            before = self.seen(bench)
            for call in calls:
                self.assert_raises(Busy, call)
            self.assertEqual([console.execute(line) for line in lines], ["error Busy"] * len(lines))
            self.assertEqual(console.execute("undo  "), "unknown command")
            self.assertEqual(self.seen(bench), before)
            # Another bench is free, and so are the queries of this one.
            self.assertEqual(other.turn(0), len(other))
            self.assertEqual(other.attempt([("turn", 0)], watch=lambda held: held.edits() and None), 1)
            self.assertEqual(console.execute("left 3"), str(bench.left(3)))
            return True

        asked(check)

    def test_while_a_watch_runs(self):
        for bench in (bench_of(*RULE), RightBench(EVERY, "+-", (("aa", "ab"), ("ba", "bb")))):
            bench.turn(0)
            bench.turn(1)
            bench.undo()

            def asked(check):
                checked = []
                self.assertEqual(bench.attempt([("turn", 0), ("lift", 1)], watch=lambda held: checked.append(check())), 2)
                self.assertEqual(checked, [True, True])

            self.assert_busy(bench, asked)
            self.assertEqual(bench.turn(0), 3)

    def test_while_its_result_is_asked(self):
        bench = bench_of(*RULE)
        bench.turn(0)

        def asked(check):
            class Asked:
                def __bool__(self):
                    return not check()

            self.assertEqual(bench.attempt([("turn", 0), ("lift", 1)], watch=lambda held: Asked()), 2)

        self.assert_busy(bench, asked)
        self.assertEqual(bench.undo(), 1)

    def test_ahead_of_too_many_edits(self):
        bench = bench_of(*RULE)
        for _ in range(MAX_EDITS - 1):
            bench.turn(0)

        def asked(check):
            self.assertEqual(bench.attempt([("turn", 0)], watch=lambda held: check()), 1)

        self.assert_busy(bench, asked)

    def test_from_another_thread(self):
        bench = bench_of(*RULE)
        found = []

        def try_it():
            try:
                bench.turn(0)
            except Busy:
                found.append(True)

        def watch(held):
            thread = threading.Thread(target=try_it)
            thread.start()
            thread.join()

        self.assertEqual(bench.attempt([("turn", 0)], watch=watch), 1)
        self.assertEqual(found, [True])

    def test_busy_that_a_watch_does_not_catch(self):
        bench = bench_of(*RULE)
        self.assert_refused(bench, Busy, lambda: bench.attempt([("turn", 0)], watch=lambda held: held.turn(0)))
        self.assertEqual(bench.turn(0), 1)

    def test_within_each_other(self):
        """The watch of one bench works on another one, the watch of which asks the first one."""
        one, other = bench_of(*RULE), bench_of(*RULE)

        def inner(held):
            self.assertIs(held, other)
            self.assertRaises(Busy, one.turn, 0)
            self.assertRaises(Busy, other.turn, 0)

        def outer(held):
            self.assertEqual(other.attempt([("turn", 0)], watch=inner), 1)
            self.assertRaises(Busy, one.turn, 0)

        self.assertEqual(one.attempt([("turn", 0), ("turn", 1)], watch=outer), 2)
        self.assertEqual((len(one), len(other)), (1, 2))


class ChanceTest(BenchCase):
    def test_watch_of_a_right_bench(self):
        bench = RightBench(EVERY, "+-", (("a", "b"),))
        seen = []
        items = [("add", ("ab", "ba")), ("drop", 1)]
        self.assertEqual(bench.attempt(items, watch=lambda held: seen.append((len(held), held.verdict()))), 2)
        self.assertEqual(seen, [(1, None), (1, None)])

    def test_chance(self):
        """Attempts by chance: all or nothing."""
        chance = random.Random(1)
        bench = Bench(every(3), "+-+", RULE)
        done = 0
        for _ in range(300):
            items = [
                chance.choice((("turn", chance.randint(0, 4)), ("lift", chance.randint(0, 4)), ("drop", chance.randint(0, 4)),
                               ("add", (chance.choice(("c", "ca", "cb", "cca")), chance.choice(("a", "bc", "ac", "bbb"))))))
                for _ in range(chance.randint(1, 5))
            ]
            rule, fails = bench.rule, None
            for at, item in enumerate(items):
                try:
                    held = Bench(every(3), "+-+", rule)
                    getattr(held, item[0])(*item[1:])
                    rule = held.rule
                except (NoPair, BadRule):
                    fails = at
                    break
            if fails is not None:
                self.assert_refused(bench, Rejected, lambda: bench.attempt(items), index=fails)
            else:
                self.assertEqual(bench.attempt(items), len(items))
                self.assertEqual(bench.rule, rule)
                done += 1
            if len(bench) == MAX_EDITS or not bench.rule:
                bench = Bench(every(3), "+-+", RULE)
        self.assertGreater(done, 40)

    def test_kinds_stay(self):
        bench = Bench(KIND, "+-", (("aa", "ab"),))
        bench.attempt([("turn", 0)])
        self.assertEqual((bench.kind, bench.signs), (KIND, "+-"))


if __name__ == "__main__":
    unittest.main()
