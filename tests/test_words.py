"""Words and machines: machine_error, is_of and each_word."""

import copy
import unittest

from pairedaway.bounds import MAX_LENGTH, MAX_LETTERS, MAX_ROWS
from pairedaway.words import each_word, is_of, machine_error
from tests.helpers import at_once, ring, small_machines, texts

KIND = (2, ((0, 1), (0, None)), (True, True))
EVERY = (4, ((0, 0, 0, 0),), (True,))
NO_WORD = (3, ((0, 0, 0),), (False,))
EVEN = (2, ((1, 1), (0, 0)), (True, False))
ONE_STATE = ((0,),)


def is_read(machine, word):
    """What [4] says of a word, told once more: the states that are come to, None behind a missing item."""
    states = [0]
    for letter in word:
        states.append(None if states[-1] is None else machine[1][states[-1]]["abcd".index(letter)])
    return states[-1] is not None and machine[2][states[-1]]


class ExampleTest(unittest.TestCase):
    def test_machine_error(self):
        self.assertIsNone(machine_error(KIND))
        self.assertEqual(machine_error((2, ((0, 1), (0, 2)), (True, True))), "rows")

    def test_is_of(self):
        self.assertIs(is_of(KIND, "abab"), True)
        self.assertIs(is_of(KIND, "abb"), False)

    def test_each_word(self):
        self.assertEqual(list(each_word(KIND, 3)), ["aaa", "aab", "aba", "baa", "bab"])


class MachineTest(unittest.TestCase):
    """Values for which machine_error returns None."""

    def assert_machine(self, value):
        self.assertIsNone(machine_error(value))

    def test_one_to_four_letters(self):
        for letters in range(1, MAX_LETTERS + 1):
            with self.subTest(letters=letters):
                self.assert_machine((letters, ((0,) * letters, (None,) * letters), (True, False)))

    def test_one_row(self):
        for end in (True, False):
            for item in (None, 0):
                self.assert_machine((1, ((item,),), (end,)))

    def test_most_rows(self):
        for letters in range(1, MAX_LETTERS + 1):
            with self.subTest(letters=letters):
                self.assert_machine(ring(MAX_ROWS, letters))

    def test_least_and_greatest_state(self):
        self.assert_machine((2, ((0, MAX_ROWS - 1),) * MAX_ROWS, (False,) * MAX_ROWS))

    def test_states_that_are_never_come_to(self):
        self.assert_machine((1, ((0,), (2,), (1,)), (True, True, False)))

    def test_all_small_machines(self):
        for machine in small_machines():
            self.assert_machine(machine)


class NoMachineTest(unittest.TestCase):
    """Values for which machine_error tells the first part that is wrong."""

    def assert_told(self, told, values):
        for value in values:
            with self.subTest(value=repr(value)[:80]):
                self.assertEqual(machine_error(value), told)

    def assert_each_told(self, told, values, place):
        """Each value makes a machine wrong, if it stands in the place of this item of it."""
        machine = (1, ONE_STATE, (True,))
        self.assertIsNone(machine_error(machine))
        self.assert_told(told, [machine[:place] + (value,) + machine[place + 1:] for value in values])

    def test_no_tuple(self):
        self.assert_told("machine", [
            None, True, False, 0, 3, -1, 10 ** 60 - 1, "", "abc", [], [1, 2, 3], {}, {0: 1, 1: 2, 2: 3},
            list(KIND), [1, ONE_STATE, (True,)], {1: 1, 2: ONE_STATE, 3: (True,)},
        ])

    def test_no_tuple_of_three(self):
        self.assert_told("machine", [(), (2,), KIND[:2], KIND[1:], KIND + (None,), KIND + KIND, (KIND,), tuple(range(6000))])

    def test_no_number_of_letters(self):
        values = [
            0, -1, 5, 6, 10 ** 60 - 1, -(10 ** 60) + 1, None, "", "1", "a", "abcd", (), (1,), [], [1], {}, {1: 1}, KIND,
        ]
        self.assert_each_told("letters", values, 0)

    def test_bools_are_no_number_of_letters(self):
        self.assert_each_told("letters", [True, False], 0)

    def test_too_many_letters(self):
        self.assert_told("letters", [(5, ((0,) * 5,), (True,)), (0, ((),), (True,))])

    def test_no_tuple_of_rows(self):
        values = [None, True, False, 0, 1, 10 ** 60 - 1, "", "a", "ab", [(0,)], [[0]], [], {}, {0: (0,)}, {(0,): 0}]
        self.assert_each_told("rows", values, 1)

    def test_no_rows(self):
        self.assert_told("rows", [(1, (), ()), (2, (), (True,)), (4, (), (False,) * 4)])

    def test_too_many_rows(self):
        for letters in range(1, MAX_LETTERS + 1):
            self.assert_told("rows", [ring(MAX_ROWS + 1, letters), ring(MAX_ROWS + 200, letters)])
        self.assert_told("rows", [(1, ((0,),) * (MAX_ROWS + 1), (True,) * (MAX_ROWS + 1))])

    def test_row_that_is_no_tuple(self):
        values = [([0],), (None,), (0,), (True,), ("a",), ("",), ({0: 0},), ({},)]
        self.assert_each_told("rows", values, 1)
        self.assert_told("rows", [(2, ((0, 1), [0, None]), (True, True)), (2, ((0, 0), "ab"), (True, True))])

    def test_row_of_another_length(self):
        for letters in range(1, MAX_LETTERS + 1):
            for length in range(MAX_LETTERS + 3):
                if length != letters:
                    good, bad = (0,) * letters, (0,) * length
                    self.assert_told("rows", [
                        (letters, (bad,), (True,)), (letters, (good, bad), (True, True)), (letters, (bad, good), (True, True)),
                    ])

    def test_item_that_is_no_state(self):
        for item in (-1, -2, 2, 3, 10 ** 60 - 1, -(10 ** 60) + 1, True, False, "", "a", "0", (), (0,), [], [0], {}, {0: 0}):
            for place in range(4):
                items = [0, 1, None, 0]
                items[place] = item
                self.assert_told("rows", [(2, (tuple(items[:2]), tuple(items[2:])), (True, True))])

    def test_item_that_is_one_more_than_the_last_state(self):
        for states in (1, 2, 7, 8, 9, MAX_ROWS - 1, MAX_ROWS):
            rows = ((0,),) * (states - 1)
            self.assertIsNone(machine_error((1, rows + ((states - 1,),), (True,) * states)))
            self.assert_told("rows", [(1, rows + ((states,),), (True,) * states)])

    def test_no_tuple_of_ends(self):
        values = [None, True, False, 0, 1, 10 ** 60 - 1, "", "a", [True], [False], [], {}, {0: True}, {True: True}]
        self.assert_each_told("ends", values, 2)

    def test_ends_of_another_length(self):
        for states in (1, 2, 3, MAX_ROWS):
            letters, rows, ends = ring(states)
            self.assert_told("ends", [(letters, rows, ()), (letters, rows, ends[1:]), (letters, rows, ends + (True,))])

    def test_end_that_is_no_bool(self):
        for end in (0, 1, -1, None, 10 ** 60 - 1, "", "True", (), (True,), [], [True], {}, {True: True}):
            self.assert_told("ends", [
                (1, ((0,),), (end,)), (1, ((0,), (1,)), (end, True)), (1, ((0,), (1,)), (False, end)),
            ])
        self.assert_told("ends", [(1, ring(MAX_ROWS)[1], (True,) * (MAX_ROWS - 1) + (1,))])

    def test_first_of_several(self):
        self.assert_told("machine", [(0, (), (), None), (0, ()), [0, (), ()]])
        self.assert_told("letters", [(0, (), ()), (True, (), ()), (None, [(0,)], None), (5, ((9,),), (1,))])
        self.assert_told("rows", [(1, (), ()), (1, [(0,)], [True]), (1, ((1,),), (1,)), (1, ((0, 0),), ()), (1, None, None)])
        self.assert_told("rows", [(1, ((0,),) * (MAX_ROWS + 1), (True,))])

    def test_deep_values(self):
        for shell in (lambda held: (held,), lambda held: [held], lambda held: {"a": held}):
            deep = 0
            for depth in range(17):
                deep = shell(deep)
            self.assert_told("machine", [deep])
            self.assert_told("letters", [(deep, ONE_STATE, (True,))])
            self.assert_told("rows", [(1, deep, (True,)), (1, (deep,), (True,)), (1, ((deep,),), (True,))])
            self.assert_told("ends", [(1, ONE_STATE, deep), (1, ONE_STATE, (deep,))])

    def test_large_values(self):
        self.assert_told("letters", [("x" * 3500, ONE_STATE, (True,))])
        self.assert_told("rows", [(1, tuple((0,) for row in range(2900)), (True,)), (1, (tuple([0] * 5900),), (True,))])
        self.assert_told("ends", [(1, ONE_STATE, (True,) * 5900)])

    def test_value_stays_as_it_was(self):
        for value in (
            KIND, [KIND, KIND], (1, [[0], {"a": [None]}], [True]), {1: [2, {3: (4, [5])}]}, ([1], ONE_STATE, (True,)),
            (1, ([0],), (True,)), (1, ONE_STATE, [True]), (1, ({0: [0]},), (True,)), (1, ONE_STATE, ([True],)),
        ):
            before = copy.deepcopy(value)
            machine_error(value)
            self.assertEqual(repr(value), repr(before))

    def test_result_is_a_plain_text(self):
        for value in (None, (0, 0, 0), (1, 0, 0), (1, ONE_STATE, 0)):
            self.assertIs(type(machine_error(value)), str)

    def test_equal_calls_return_equal_results(self):
        for value in (KIND, None, (True, ONE_STATE, (True,)), KIND, (1, ONE_STATE, (True,)), (1, ((False,),), (True,))):
            first = machine_error(value)
            machine_error((1, ((0,),), (1,)))
            self.assertEqual(machine_error(copy.deepcopy(value)), first)

    def test_equal_values_of_other_kinds_are_told_apart(self):
        self.assertIsNone(machine_error((1, ((0,),), (True,))))
        self.assert_told("letters", [(True, ((0,),), (True,))])
        self.assert_told("rows", [(1, ((False,),), (True,))])
        self.assert_told("ends", [(1, ((0,),), (1,))])
        self.assertIsNone(machine_error((1, ((0,),), (True,))))


class IsOfTest(unittest.TestCase):
    def test_empty_word(self):
        self.assertIs(is_of((1, ONE_STATE, (True,)), ""), True)
        self.assertIs(is_of((1, ONE_STATE, (False,)), ""), False)
        self.assertIs(is_of((1, ((1,), (None,)), (False, True)), ""), False)
        self.assertIs(is_of((1, ((None,), (None,)), (True, False)), ""), True)

    def test_words_that_cannot_be_read(self):
        dead = (3, ((1, None, 0), (None, 0, 1)), (True, True))
        for word in ("b", "aa", "ab" * 5 + "b", "ca" + "a", "abba", "b" * MAX_LENGTH, "aab", "baaaa"):
            with self.subTest(word=word):
                self.assertIs(is_of(dead, word), False)
        for word in ("", "a", "ab", "cab", "ac", "acb"):
            with self.subTest(word=word):
                self.assertIs(is_of(dead, word), True)

    def test_reading_does_not_go_on_behind_a_missing_item(self):
        # None must not be taken for the last row, nor for state 0.
        self.assertIs(is_of((2, ((None, 0), (1, 1)), (True, True)), "ab"), False)
        self.assertIs(is_of((2, ((None, 0), (1, 1)), (True, True)), "abb"), False)

    def test_words_that_end_where_end_is_false(self):
        self.assertEqual([is_of(EVEN, "ab" * 3), is_of(EVEN, "aba"), is_of(NO_WORD, "abc")], [True, False, False])

    def test_reading_begins_with_state_0(self):
        self.assertEqual([is_of((1, ((0,), (1,)), ends), "aa") for ends in ((True, False), (False, True))], [True, False])

    def test_each_of_four_letters(self):
        for at, letter in enumerate("abcd"):
            row = tuple(1 if place == at else None for place in range(4))
            machine = (4, (row, (None,) * 4), (False, True))
            self.assertEqual([is_of(machine, other) for other in "abcd"], [other == letter for other in "abcd"])

    def test_all_small_machines(self):
        for machine in small_machines():
            for length in range(5):
                for word in texts(2, length):
                    self.assertIs(is_of(machine, word), is_read(machine, word))

    def test_long_words(self):
        self.assertIs(is_of(EVEN, "ab" * (MAX_LENGTH // 2)), True)
        self.assertIs(is_of(EVEN, "b" * (MAX_LENGTH - 1)), False)
        self.assertIs(is_of(KIND, "ab" * (MAX_LENGTH // 2)), True)
        self.assertIs(is_of(KIND, "a" * (MAX_LENGTH - 2) + "bb"), False)
        self.assertIs(is_of(EVERY, "abcd" * (MAX_LENGTH // 4)), True)

    def test_longer_words_than_the_limit(self):
        self.assertIs(is_of(EVEN, "ab" * 250), True)
        self.assertIs(is_of(EVEN, "ab" * 250 + "a"), False)

    def test_machine_of_400_rows(self):
        machine = ring(MAX_ROWS)
        for length in range(MAX_LENGTH + 1):
            self.assertIs(is_of(machine, "a" * length), length in (0, MAX_ROWS))
        last = (2, tuple((0, state) for state in range(1, MAX_ROWS)) + ((None, 0),), (False,) * (MAX_ROWS - 1) + (True,))
        self.assertIs(is_of(last, "b" * (MAX_ROWS - 1)), True)
        self.assertIs(is_of(last, "b" * MAX_ROWS), False)
        self.assertIs(is_of(last, "b" * (MAX_ROWS - 1) + "a"), False)
        self.assertIs(is_of(last, "a" + "b" * (MAX_ROWS - 1)), True)

    def test_machine_stays_as_it_was_and_equal_calls_agree(self):
        machine = copy.deepcopy(KIND)
        first = [is_of(machine, word) for word in texts(2, 6)]
        is_of(EVEN, "ab")
        self.assertEqual([is_of(copy.deepcopy(KIND), word) for word in texts(2, 6)], first)
        self.assertEqual(repr(machine), repr(KIND))


class EachWordTest(unittest.TestCase):
    def test_all_small_machines(self):
        for machine in small_machines():
            for length in range(5):
                told = [word for word in texts(2, length) if is_read(machine, word)]
                self.assertEqual(list(each_word(machine, length)), told)

    def test_each_number_of_letters(self):
        for letters in range(1, MAX_LETTERS + 1):
            machine = (letters, ((0,) * letters,), (True,))
            for length in range(5):
                self.assertEqual(list(each_word(machine, length)), texts(letters, length))

    def test_length_0(self):
        self.assertEqual(list(each_word((1, ONE_STATE, (True,)), 0)), [""])
        self.assertEqual(list(each_word((1, ((1,), (0,)), (False, True)), 0)), [])
        self.assertEqual(list(each_word((1, ((None,),), (True,)), 0)), [""])

    def test_every_length_up_to_the_limit(self):
        machine = (2, ((0, 1), (None, 1)), (True, True))
        for length in range(MAX_LENGTH + 1):
            words = [word for word, at in zip(each_word(machine, length), range(3))]
            told = ["a" * (length - tail) + "b" * tail for tail in range(min(3, length + 1))]
            self.assertEqual(words, told)

    def test_all_words_of_the_greatest_length(self):
        machine = (2, ((0, 1), (None, 1)), (True, True))
        told = ["a" * (MAX_LENGTH - tail) + "b" * tail for tail in range(MAX_LENGTH + 1)]
        self.assertEqual(list(each_word(machine, MAX_LENGTH)), told)

    def test_greater_length_than_the_limit(self):
        self.assertEqual(list(each_word((1, ONE_STATE, (True,)), 450)), ["a" * 450])
        self.assertEqual(list(each_word(EVEN, 451)), [])

    def test_order(self):
        backwards = (3, ((2, 1, 0), (1, 0, 2), (0, 2, 1)), (False, True, True))
        words = list(each_word(backwards, 7))
        self.assertEqual(words, sorted(word for word in texts(3, 7) if is_read(backwards, word)))
        self.assertGreater(len(words), 1000)

    def test_words_are_of_this_length_and_none_comes_twice(self):
        words = list(each_word(EVERY, 6))
        self.assertEqual(({len(word) for word in words}, len(words), len(set(words))), ({6}, 4 ** 6, 4 ** 6))

    def test_no_words_at_all(self):
        for length in (0, 1, 2, 3, 50, MAX_LENGTH - 1, MAX_LENGTH):
            with self.subTest(length=length), at_once():
                self.assertEqual(list(each_word(NO_WORD, length)), [])
                self.assertEqual(list(each_word((1, ((None,),), (False,)), length)), [])

    def test_no_words_of_a_length(self):
        with at_once():
            self.assertEqual(list(each_word(EVEN, MAX_LENGTH - 1)), [])
            self.assertEqual(list(each_word((1, ((1,), (None,)), (False, True)), 2)), [])
            self.assertEqual(list(each_word(ring(3, 4), MAX_LENGTH)), [])

    def test_first_words_of_very_many(self):
        with at_once():
            words = [word for word, at in zip(each_word(EVERY, MAX_LENGTH), range(6))]
        start = "a" * (MAX_LENGTH - 2)
        self.assertEqual(words, [start + end for end in ("aa", "ab", "ac", "ad", "ba", "bb")])

    def test_first_words_behind_very_many_vain_beginnings(self):
        # State 0 leads by a into pairs of any letters with an odd rest, by b into those with an even rest.
        vain = (2, ((1, 2), (2, 2), (1, 1)), (False, True, False))
        with at_once():
            words = [word for word, at in zip(each_word(vain, MAX_LENGTH), range(3))]
            self.assertEqual(words, ["b" + "a" * (MAX_LENGTH - 3) + end for end in ("aa", "ab", "ba")])
            self.assertEqual(next(each_word(vain, MAX_LENGTH - 1)), "a" * (MAX_LENGTH - 1))

    def test_the_only_word_behind_very_many_vain_beginnings(self):
        only_d = (4, ((1, 1, 1, 0), (1, 1, 1, 1)), (True, False))
        with at_once():
            self.assertEqual(list(each_word(only_d, MAX_LENGTH)), ["d" * MAX_LENGTH])

    def test_beginnings_that_are_vain_late(self):
        # Each word must end in c, behind which nothing comes: beginnings with an early c come to no end.
        ends_in_c = (3, ((0, 0, 1), (None, None, None)), (False, True))
        with at_once():
            words = [word for word, at in zip(each_word(ends_in_c, MAX_LENGTH), range(3))]
        self.assertEqual(words, ["a" * (MAX_LENGTH - 3) + end for end in ("aac", "abc", "bac")])

    def test_words_far_apart(self):
        # Each word is one letter often: the walk goes all the way back between two words.
        rows = ((1, 2, 3, 4),) + tuple(tuple(own if own == at + 1 else 5 for at in range(4)) for own in range(1, 5))
        machine = (4, rows + ((5, 5, 5, 5),), (False, True, True, True, True, False))
        with at_once():
            self.assertEqual(list(each_word(machine, MAX_LENGTH)), [letter * MAX_LENGTH for letter in "abcd"])

    def test_machine_of_400_rows(self):
        machine = ring(MAX_ROWS, 4)
        with at_once():
            words = [word for word, at in zip(each_word(machine, MAX_LENGTH), range(3))]
            self.assertEqual(words, ["a" * (MAX_LENGTH - 1) + end for end in "abc"])
            self.assertEqual(list(each_word(machine, MAX_LENGTH - 1)), [])
            self.assertEqual(list(each_word(machine, 0)), [""])

    def test_long_chains(self):
        # The first letter leads on to the last state, each other one back to state 0.
        for letters in range(1, MAX_LETTERS + 1):
            rows = tuple((min(state + 1, MAX_ROWS - 1),) + (0,) * (letters - 1) for state in range(MAX_ROWS))
            machine = (letters, rows, (False,) * (MAX_ROWS - 1) + (True,))
            with self.subTest(letters=letters), at_once():
                self.assertEqual(list(each_word(machine, MAX_ROWS - 2)), [])
                self.assertEqual(list(each_word(machine, MAX_ROWS - 1)), ["a" * (MAX_ROWS - 1)])
                told = ["a" * MAX_ROWS] + [letter + "a" * (MAX_ROWS - 1) for letter in "bcd"[:letters - 1]]
                self.assertEqual(list(each_word(machine, MAX_ROWS)), told)

    def test_long_ways_to_and_fro(self):
        # a leads back and b on, and a word ends where it began or as far from it as may be.
        last = MAX_ROWS - 1
        rows = tuple((max(state - 1, 1 - state), min(state + 1, 2 * last - 1 - state)) for state in range(MAX_ROWS))
        machine = (2, rows, (True,) + (False,) * (last - 1) + (True,))
        with at_once():
            self.assertEqual(list(each_word(machine, last - 2)), [])
            words = [word for word, at in zip(each_word(machine, MAX_LENGTH), range(2))]
            self.assertEqual(words, ["a" * MAX_LENGTH, "a" * (MAX_LENGTH - 2) + "ba"])
            self.assertEqual(list(each_word(machine, last)), ["a" + "b" * (last - 1), "b" * last])

    def test_two_walks_side_by_side(self):
        told = ["aaa", "aab", "aba", "baa", "bab"]
        self.assertEqual(list(zip(each_word(KIND, 3), each_word(KIND, 3))), [(word, word) for word in told])
        first, second = each_word(KIND, 3), each_word(EVEN, 2)
        met = [next(first), next(second), next(first), next(second), next(second), next(first), next(second)]
        self.assertEqual(met, ["aaa", "aa", "aab", "ab", "ba", "aba", "bb"])
        self.assertEqual((list(first), list(second)), (["baa", "bab"], []))

    def test_a_walk_that_was_left_does_not_matter(self):
        left = each_word(KIND, 3)
        next(left)
        self.assertEqual(list(each_word(KIND, 3)), ["aaa", "aab", "aba", "baa", "bab"])
        self.assertEqual(next(left), "aab")

    def test_machine_stays_as_it_was_and_equal_calls_agree(self):
        machine = copy.deepcopy(KIND)
        first = list(each_word(machine, 5))
        list(each_word(EVEN, 5))
        self.assertEqual(list(each_word(copy.deepcopy(KIND), 5)), first)
        self.assertEqual(repr(machine), repr(KIND))

    def test_words_are_plain_texts(self):
        self.assertEqual([type(word) for word in each_word(KIND, 2)], [str] * 3)

    def test_each_word_is_of_the_machine(self):
        for word in each_word(KIND, 12):
            self.assertIs(is_of(KIND, word), True)


if __name__ == "__main__":
    unittest.main()
