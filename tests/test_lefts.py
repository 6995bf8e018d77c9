"""What is left: left_of and left_holds."""

import copy
import random
import unittest

from pairedaway.bounds import MAX_PAIRS, MAX_ROWS, MAX_STATES
from pairedaway.lefts import left_holds, left_of
from pairedaway.machines import apart, smallest
from pairedaway.rules import change
from pairedaway.verdicts import fault
from pairedaway.words import machine_error
from tests.helpers import any_machine, any_rule, at_once, every, is_plain, reordered, told_words

RULE = (("ab", "ba"),)
LEFT = (2, ((1, 2), (1, None), (None, 2)), (True, True, True))
SIX = (("aaa", "aab"), ("bbb", "bba"), ("ccc", "ccd"), ("ddd", "dda"), ("aba", "bab"), ("cdc", "dcd"))
LENGTHS = ((1,), (2,), (3,), (1, 2), (2, 3), (1, 2, 3))
OTHERS = [
    None, True, False, 0, 1, -1, 10 ** 60 - 1, -(10 ** 60) + 1, "", "machine", "a\nb", "x" * 3500, (), [], {}, (2,), [2],
    (2, LEFT[1]), (*LEFT, None), list(LEFT), {0: 2, 1: LEFT[1], 2: LEFT[2]}, {2: LEFT}, (LEFT,), [LEFT], (LEFT, LEFT, LEFT),
    (True, LEFT[1], LEFT[2]), ("2", LEFT[1], LEFT[2]), (None, LEFT[1], LEFT[2]), (5, LEFT[1], LEFT[2]),
    (0, LEFT[1], LEFT[2]), (-2, LEFT[1], LEFT[2]), (2, list(LEFT[1]), LEFT[2]), (2, LEFT[1], list(LEFT[2])),
    (2, None, None), (2, (), ()), (2, "ab", "ab"), (2, (LEFT[1],), LEFT[2]), (2, LEFT[1], (1, 1, 1)),
    (2, LEFT[1], (True, True)), (2, LEFT[1], (True, True, True, True)), (2, LEFT[1], (True, None, True)),
    (2, ((1, 2), (1, None), (None, 3)), LEFT[2]), (2, ((1, 2), (1, None), (None, -1)), LEFT[2]),
    (2, ((1, 2), (1, None), (None, True)), LEFT[2]), (2, ((1, 2), (1, False), (None, 2)), LEFT[2]),
    (2, ((1, 2), [1, None], (None, 2)), LEFT[2]), (2, ((1, 2), (1,), (None, 2)), LEFT[2]),
    (2, ((1, 2), (1, None, None), (None, 2)), LEFT[2]), (2, ((1, 2), (1, "."), (None, 2)), LEFT[2]),
    (2, ((0, 0),) * 401, (True,) * 401), (2, ((10 ** 59, 0),), (True,)), (2, {0: (0, 0)}, (True,)), (2, RULE, (True,)),
]


def deep(levels):
    value = "a"
    for level in range(levels):
        value = [(value,), [value], {"a": value}][level % 3]
    return value


def cases(seed, many):
    chance = random.Random(seed)
    for _ in range(many):
        letters = chance.choice((1, 2, 2, 3, 4))
        kind = any_machine(chance, chance.choice((1, 2, 3, 8)), letters, chance.choice((0.0, 0.1, 0.4)), chance.random())
        yield chance, kind, any_rule(chance, letters, chance.randint(0, MAX_PAIRS), chance.choice(LENGTHS))


def told_left(kind, rule, most):
    return [word for word in told_words(kind, most) if change(rule, word) is None]


class ExampleTest(unittest.TestCase):
    def test_told_machine(self):
        self.assertIs(left_holds(every(2), RULE, LEFT), True)

    def test_all_words(self):
        self.assertIs(left_holds(every(2), RULE, every(2)), False)

    def test_own_machine(self):
        self.assertIs(left_holds(every(2), RULE, left_of(every(2), RULE)), True)


class LeftOfTest(unittest.TestCase):
    def assert_left(self, kind, rule, most=None):
        found = left_of(kind, rule)
        self.assertIsNone(machine_error(found))
        self.assertTrue(is_plain(found))
        self.assertEqual(found[0], kind[0])
        most = {1: 20, 2: 8, 3: 5, 4: 4}[kind[0]] if most is None else most
        self.assertEqual(told_words(found, most), told_left(kind, rule, most))
        self.assertIs(left_holds(kind, rule, found), True)

    def test_any(self):
        for chance, kind, rule in cases(1, 300):
            self.assert_left(kind, rule)

    def test_no_pairs(self):
        for chance, kind, rule in cases(2, 30):
            self.assert_left(kind, ())
            self.assertIsNone(apart(left_of(kind, ()), kind))

    def test_no_words(self):
        nothing = (2, ((0, 0),), (False,))
        self.assert_left(nothing, RULE)
        self.assertEqual(told_words(left_of(every(2), (("a", "b"),)), 5), [""])
        self.assertEqual(told_words(left_of((2, ((0, 1), (None, 1)), (False, True)), (("b", "a"),)), 5), [])

    def test_one_and_four_letters(self):
        self.assert_left(every(1), ())
        self.assert_left(every(4), (("a", "b"), ("cc", "dd"), ("cdc", "dcd")))

    def test_eight_states_and_six_pairs_of_three_letters(self):
        with at_once():
            chance = random.Random(3)
            for _ in range(5):
                kind = any_machine(chance, MAX_STATES, 4, 0.1)
                self.assert_left(kind, SIX)
                self.assertLessEqual(len(left_of(kind, SIX)[1]), MAX_ROWS)

    def test_pieces_that_begin_alike_or_within_each_other(self):
        for rule in ((("aab", "abb"), ("ab", "bb")), (("aba", "bab"), ("bb", "aa")), (("aaa", "bbb"), ("b", "a"))):
            self.assert_left(every(2), rule, 10)

    def test_equal_calls(self):
        for chance, kind, rule in cases(4, 20):
            arguments = copy.deepcopy((kind, rule))
            first = left_of(*arguments)
            self.assertEqual(arguments, (kind, rule))
            self.assertEqual(left_of(kind, rule), first)


class LeftHoldsTest(unittest.TestCase):
    def test_states_in_another_order_or_more(self):
        for chance, kind, rule in cases(5, 150):
            found = left_of(kind, rule)
            self.assertIs(left_holds(kind, rule, reordered(chance, found)), True)
            self.assertIs(left_holds(kind, rule, reordered(chance, found, 3)), True)
            self.assertIs(left_holds(kind, rule, smallest(found)), True)

    def test_one_thing_otherwise(self):
        """False where that changes a word, True where it does not."""
        told = {True: 0, False: 0}
        for chance, kind, rule in cases(6, 200):
            found = left_of(kind, rule)
            for _ in range(4):
                rows, ends = [list(row) for row in found[1]], list(found[2])
                at = chance.randrange(len(rows))
                if chance.random() < 0.3:
                    ends[at] = not ends[at]
                else:
                    rows[at][chance.randrange(kind[0])] = chance.choice((None, *range(len(rows))))
                value = (kind[0], tuple(map(tuple, rows)), tuple(ends))
                holds = left_holds(kind, rule, value)
                self.assertIs(holds, apart(value, found) is None)
                most = {1: 20, 2: 8, 3: 5, 4: 4}[kind[0]]
                if told_words(value, most) != told_left(kind, rule, most):
                    self.assertIs(holds, False)
                told[holds] += 1
        self.assertGreater(min(told.values()), 50)

    def test_each_end_and_item_of_one_machine(self):
        for at in range(3):
            ends = tuple(end != (place == at) for place, end in enumerate(LEFT[2]))
            self.assertIs(left_holds(every(2), RULE, (2, LEFT[1], ends)), False)
            for letter in range(2):
                for goal in (None, 0, 1, 2):
                    rows = [list(row) for row in LEFT[1]]
                    rows[at][letter] = goal
                    same = goal == LEFT[1][at][letter]
                    self.assertIs(left_holds(every(2), RULE, (2, tuple(map(tuple, rows)), LEFT[2])), same)

    def test_machines_with_other_letters(self):
        for letters in (1, 3, 4):
            rows = tuple((row + (None, None))[:letters] for row in LEFT[1])
            self.assertIs(left_holds(every(2), RULE, (letters, rows, LEFT[2])), False)
        self.assertIs(left_holds(every(3), (("c", "b"),), (1, ((0,),), (True,))), False)
        self.assertIs(left_holds((2, ((0, 0),), (False,)), (), (1, ((0,),), (False,))), False)

    def test_no_machines(self):
        for value in OTHERS:
            self.assertIs(left_holds(every(2), RULE, value), False)
        self.assertIs(left_holds(every(2), RULE, deep(20)), False)
        self.assertIs(left_holds(every(2), RULE, [[None] * 1000] * 5), False)

    def test_results_of_the_package(self):
        for value in (fault(every(2), "++", RULE), change(RULE, "ab"), machine_error(LEFT), RULE):
            self.assertIs(left_holds(every(2), RULE, value), False)

    def test_kinds_without_words(self):
        nothing = (2, ((0, 0),), (False,))
        self.assertIs(left_holds(nothing, RULE, nothing), True)
        self.assertIs(left_holds(nothing, RULE, (2, ((0, 1), (1, 1)), (False, False))), True)
        self.assertIs(left_holds(nothing, RULE, (2, ((None, None),), (True,))), False)
        self.assertIs(left_holds(every(2), (("a", "b"),), (2, ((None, None),), (True,))), True)

    def test_great_machines(self):
        with at_once():
            # The words of one letter that are left are all of them; a ring of 400 states tells just these.
            ring = (1, tuple(((state + 1) % 400,) for state in range(400)), (True,) * 400)
            self.assertIs(left_holds(every(1), (), ring), True)
            self.assertIs(left_holds(every(1), (), (1, ring[1], (True,) * 399 + (False,))), False)
            chance = random.Random(7)
            kind = any_machine(chance, MAX_STATES, 4)
            found = left_of(kind, SIX)
            self.assertIs(left_holds(kind, SIX, reordered(chance, found, MAX_ROWS - len(found[1]))), True)

    def test_equal_calls(self):
        for value in (LEFT, every(2), [LEFT], None):
            before = copy.deepcopy(value)
            first = left_holds(every(2), RULE, value)
            self.assertEqual(value, before)
            self.assertIs(left_holds(every(2), RULE, value), first)


if __name__ == "__main__":
    unittest.main()
