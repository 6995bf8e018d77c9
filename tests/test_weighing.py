"""Signs, weights and counts: sign_of, weight_of, count, signed and spread."""

import copy
import itertools
import random
import unittest

from pairedaway.bounds import MAX_LENGTH, MAX_LETTERS, MAX_ROWS
from pairedaway.weighing import count, sign_of, signed, spread, weight_of
from pairedaway.words import each_word
from tests.helpers import (
    any_machine, at_once, chain, every, ring, small_machines, texts, told_sign, told_signed, told_spreads, two_of,
)

KIND = (2, ((0, 1), (0, None)), (True, True))
NO_WORD = (3, ((0, 0, 0),), (False,))


class ExampleTest(unittest.TestCase):
    def test_counts(self):
        self.assertEqual(sign_of("+-", "abab"), 1)
        self.assertEqual(weight_of((1, -2), "aab"), 0)
        self.assertEqual([count(KIND, n) for n in range(6)], [1, 2, 3, 5, 8, 13])
        self.assertEqual([signed(KIND, "+-", n) for n in range(7)], [1, 0, -1, -1, 0, 1, 1])

    def test_spread(self):
        self.assertEqual(spread(every(2), "++", (0, 1), 3), ((0, 1), (1, 3), (2, 3), (3, 1)))
        self.assertEqual(spread(every(2), "+-", (1, 1), 3), ())


class SignTest(unittest.TestCase):
    def test_empty_word(self):
        for letters in range(1, MAX_LETTERS + 1):
            for signs in itertools.product("+-", repeat=letters):
                self.assertEqual(sign_of("".join(signs), ""), 1)

    def test_single_letters(self):
        for signs in itertools.product("+-", repeat=4):
            told = [1 if sign == "+" else -1 for sign in signs]
            self.assertEqual([sign_of("".join(signs), letter) for letter in "abcd"], told)

    def test_all_short_words(self):
        for letters in range(1, MAX_LETTERS + 1):
            for signs in itertools.product("+-", repeat=letters):
                for length in range(5):
                    for word in texts(letters, length):
                        self.assertEqual(sign_of("".join(signs), word), told_sign(signs, word))

    def test_long_words(self):
        self.assertEqual(sign_of("-", "a" * MAX_LENGTH), 1)
        self.assertEqual(sign_of("-", "a" * (MAX_LENGTH - 1)), -1)
        self.assertEqual(sign_of("+", "a" * (MAX_LENGTH - 1)), 1)
        self.assertEqual(sign_of("++-+", "abcd" * 100), 1)
        self.assertEqual(sign_of("++-+", "abcd" * 99 + "abdd"), -1)
        self.assertEqual(sign_of("-+-+", "abcd" * 99 + "abdd"), -1)
        self.assertEqual(sign_of("--", "ab" * 250), 1)

    def test_two_words_put_together(self):
        for one in texts(3, 3):
            for other in texts(3, 2):
                for signs in ("+-+", "--+", "---"):
                    self.assertEqual(sign_of(signs, one + other), sign_of(signs, one) * sign_of(signs, other))

    def test_results_are_integers(self):
        for word in ("", "a", "b", "ab"):
            self.assertIs(type(sign_of("-+", word)), int)
            self.assertIs(type(weight_of((-1, 2), word)), int)


class WeightTest(unittest.TestCase):
    def test_empty_word(self):
        for weights in ((7,), (-99, 99), (1, 2, 3), (0, 0, 0, 0), (99, 99, 99, 99)):
            self.assertEqual(weight_of(weights, ""), 0)

    def test_single_letters(self):
        for weights in ((-99, 99, 0, 5), (1, 1, -1, -1), (0, 0, 0, 0)):
            self.assertEqual(tuple(weight_of(weights, letter) for letter in "abcd"), weights)

    def test_long_words(self):
        self.assertEqual(weight_of((99,), "a" * MAX_LENGTH), 99 * MAX_LENGTH)
        self.assertEqual(weight_of((-99,), "a" * MAX_LENGTH), -99 * MAX_LENGTH)
        self.assertEqual(weight_of((99, -99), "ab" * 200), 0)
        self.assertEqual(weight_of((1, 10, -99, 7), "abcd" * 100), -8100)
        self.assertEqual(weight_of((1, 10), "a" * 399 + "b"), 409)

    def test_two_words_put_together(self):
        weights = (3, -98, 41)
        for one in texts(3, 3):
            for other in texts(3, 2):
                self.assertEqual(weight_of(weights, one + other), weight_of(weights, one) + weight_of(weights, other))
                self.assertEqual(weight_of(weights, one), sum(weights["abc".index(letter)] for letter in one))


class CountTest(unittest.TestCase):
    def test_small_machines_against_reading_all_texts(self):
        for machine in small_machines():
            for length in range(5):
                words = list(each_word(machine, length))
                self.assertEqual(count(machine, length), len(words))
                for signs in ("++", "+-", "-+", "--"):
                    self.assertEqual(signed(machine, signs, length), sum(told_sign(signs, word) for word in words))

    def test_machines_of_any_form_against_reading_all_texts(self):
        chance = random.Random(1)
        for states in (1, 3, 5, 9):
            for letters in range(1, MAX_LETTERS + 1):
                machine, signs = any_machine(chance, states, letters, 0.2), two_of(chance, letters)[0]
                for length in range(6):
                    words = list(each_word(machine, length))
                    self.assertEqual(count(machine, length), len(words))
                    self.assertEqual(signed(machine, signs, length), sum(told_sign(signs, word) for word in words))

    def test_longer_words(self):
        chance = random.Random(2)
        for states in (1, 2, 8, 20, 70):
            for letters in range(1, MAX_LETTERS + 1):
                for gaps in (0.0, 0.4):
                    machine, signs = any_machine(chance, states, letters, gaps), two_of(chance, letters)[0]
                    counts, sums = told_signed(machine, "+" * letters, 60), told_signed(machine, signs, 60)
                    self.assertEqual([count(machine, length) for length in range(61)], counts)
                    self.assertEqual([signed(machine, signs, length) for length in range(61)], sums)

    def test_length_0(self):
        for end in (True, False):
            self.assertEqual(count((1, ((0,),), (end,)), 0), int(end))
            self.assertEqual(signed((1, ((None,),), (end,)), "-", 0), int(end))
        self.assertEqual(count((1, ((1,), (0,)), (False, True)), 0), 0)

    def test_all_words(self):
        for letters in range(1, MAX_LETTERS + 1):
            for length in (0, 1, 2, 17, MAX_LENGTH - 1, MAX_LENGTH):
                self.assertEqual(count(every(letters), length), letters ** length)
                self.assertEqual(signed(every(letters), "-" * letters, length), (-letters) ** length)
        self.assertEqual(signed(every(4), "++-+", MAX_LENGTH), 2 ** MAX_LENGTH)
        self.assertEqual(count(every(3), 450), 3 ** 450)

    def test_every_length_up_to_the_limit(self):
        told = [1, 2]
        while len(told) <= MAX_LENGTH:
            told.append(told[-1] + told[-2])
        self.assertEqual([count(KIND, length) for length in range(MAX_LENGTH + 1)], told)
        again = [1, 0, -1, -1, 0, 1] * 67
        self.assertEqual([signed(KIND, "+-", length) for length in range(MAX_LENGTH + 1)], again[:MAX_LENGTH + 1])

    def test_no_words(self):
        apart, dead = (2, ((0, 0), (1, 1)), (False, True)), (2, ((1, None), (1, 1)), (False, False))
        for machine in (NO_WORD, (1, ((None,),), (False,)), apart, dead):
            for length in (0, 1, 2, 200, MAX_LENGTH):
                self.assertEqual((count(machine, length), signed(machine, "-+-"[:machine[0]], length)), (0, 0))

    def test_no_words_of_a_length(self):
        for length in range(20):
            self.assertEqual(count(ring(3, 2), length), 0 if length % 3 else 2 ** length)
            self.assertEqual(count((1, ((1,), (None,)), (False, True)), length), int(length == 1))

    def test_signs_that_cancel_all(self):
        for length in range(1, MAX_LENGTH + 1, 57):
            self.assertEqual(signed(every(2), "+-", length), 0)
            self.assertEqual(signed(every(4), "-++-", length), 0)
        self.assertEqual(signed(every(2), "+-", 0), 1)
        apart = (2, ((1, 2), (1, 1), (2, 2)), (True, True, True))
        self.assertEqual([signed(apart, "-+", length) for length in range(5)], [1, 0, 0, 0, 0])

    def test_machines_of_400_rows(self):
        chance = random.Random(3)
        for letters in (1, 2, 4):
            machine, signs = any_machine(chance, MAX_ROWS, letters), two_of(chance, letters)[0]
            counts, sums = told_signed(machine, "+" * letters, 400), told_signed(machine, signs, 400)
            for length in (0, 1, 7, 399, 400):
                self.assertEqual((count(machine, length), signed(machine, signs, length)), (counts[length], sums[length]))

    def test_long_rings_and_chains(self):
        with at_once(60):
            for length in range(MAX_LENGTH + 1):
                self.assertEqual(count(ring(MAX_ROWS), length), int(length in (0, MAX_ROWS)))
                self.assertEqual(signed(ring(399), "-", length), {0: 1, 399: -1}.get(length, 0))
                self.assertEqual(count(chain(MAX_ROWS, 4), length), {399: 1, 400: 4}.get(length, 0))
                self.assertEqual(signed(chain(MAX_ROWS, 4), "-+-+", length), {399: -1, 400: 1 - 1 + 1 - 1}.get(length, 0))
        self.assertEqual(count(ring(MAX_ROWS, 4), MAX_LENGTH), 4 ** MAX_LENGTH)
        self.assertEqual(signed(ring(MAX_ROWS, 3), "-+-", MAX_LENGTH), 1)

    def test_arguments_stay_as_they_were_and_equal_calls_agree(self):
        machine = copy.deepcopy(KIND)
        first = [(count(machine, n), signed(machine, "+-", n), spread(machine, "+-", (1, -1), n)) for n in range(9)]
        count(every(2), 3)
        again = copy.deepcopy(KIND)
        self.assertEqual([(count(again, n), signed(again, "+-", n), spread(again, "+-", (1, -1), n)) for n in range(9)], first)
        self.assertEqual(repr(machine), repr(KIND))

    def test_results_are_integers(self):
        for machine in (KIND, every(2), (2, ((None, None),), (True,)), (2, ((None, 0),), (False,))):
            for length in (0, 1, 5):
                self.assertIs(type(count(machine, length)), int)
                self.assertIs(type(signed(machine, "+-", length)), int)


class SpreadTest(unittest.TestCase):
    def assert_spreads(self, machine, signs, weights, lengths):
        told = told_spreads(machine, signs, weights, max(lengths))
        for length in lengths:
            self.assertEqual(spread(machine, signs, weights, length), told[length])

    def test_against_reading_all_texts(self):
        chance = random.Random(4)
        for machine in small_machines():
            signs, weights = two_of(chance, 2)
            for length in range(4):
                sums = {}
                for word in each_word(machine, length):
                    weight = sum(weights["ab".index(letter)] for letter in word)
                    sums[weight] = sums.get(weight, 0) + told_sign(signs, word)
                told = tuple(sorted((weight, amount) for weight, amount in sums.items() if amount))
                self.assertEqual(spread(machine, signs, weights, length), told)

    def test_machines_of_any_form(self):
        chance = random.Random(5)
        for states in (1, 2, 3, 8, 20):
            for letters in range(1, MAX_LETTERS + 1):
                for gaps in (0.0, 0.4):
                    machine, (signs, weights) = any_machine(chance, states, letters, gaps), two_of(chance, letters)
                    self.assert_spreads(machine, signs, weights, (0, 1, 2, 3, 4, 5, 9, 14))

    def test_machines_of_60_rows(self):
        chance = random.Random(6)
        for weights in ((1, 0, -1, 2), (-3, -3, 5, 0), (0, 0, 0, 1)):
            machine = any_machine(chance, 60, 4, 0.1)
            self.assert_spreads(machine, "+-++", weights, (59, 60))

    def test_great_weights(self):
        machine = any_machine(random.Random(7), 12, 3, 0.1)
        self.assert_spreads(machine, "+++", (99, -99, 98), (0, 1, 30))
        self.assertEqual(spread(every(1), "+", (99,), MAX_LENGTH), ((99 * MAX_LENGTH, 1),))
        self.assertEqual(spread(every(1), "-", (-99,), MAX_LENGTH - 1), ((-99 * (MAX_LENGTH - 1), -1),))
        self.assertEqual(spread(every(2), "+-", (-99, 99), 2), ((-198, 1), (0, -2), (198, 1)))

    def test_weights_that_are_all_0(self):
        self.assertEqual(spread(every(3), "+++", (0, 0, 0), 5), ((0, 243),))
        self.assertEqual(spread(every(3), "-+-", (0, 0, 0), 5), ((0, -1),))
        self.assertEqual(spread(every(2), "-+", (0, 0), 5), ())

    def test_weights_that_are_all_the_same(self):
        for weight in (-99, -1, 5):
            self.assertEqual(spread(every(3), "+-+", (weight,) * 3, 7), ((7 * weight, 1),))
            self.assertEqual(spread(every(4), "+-+-", (weight,) * 4, 7), ())

    def test_sums_that_are_0_are_left_out(self):
        self.assertEqual(spread(every(3), "+-+", (0, 0, 1), 2), ((2, 1),))
        self.assertEqual(spread(every(4), "+--+", (1, 2, 2, 3), 1), ((1, 1), (2, -2), (3, 1)))
        self.assertEqual(spread(every(4), "+-+-", (1, 1, 2, 2), 3), ())

    def test_ascending_order(self):
        self.assertEqual(spread(every(2), "++", (5, -5), 2), ((-10, 1), (0, 2), (10, 1)))
        self.assertEqual(spread(every(3), "+++", (1, 0, -1), 1), ((-1, 1), (0, 1), (1, 1)))

    def test_length_0(self):
        self.assertEqual(spread(KIND, "--", (7, -7), 0), ((0, 1),))
        self.assertEqual(spread(NO_WORD, "+++", (1, 2, 3), 0), ())

    def test_no_words(self):
        for length in (0, 1, 60, MAX_LENGTH):
            self.assertEqual(spread(NO_WORD, "+-+", (99, -99, 1), length), ())
        self.assertEqual(spread(ring(7, 2), "++", (1, 2), 60), ())

    def test_greatest_length(self):
        binomials = [1]
        for at in range(MAX_LENGTH):
            binomials.append(binomials[-1] * (MAX_LENGTH - at) // (at + 1))
        self.assertEqual(spread(every(2), "++", (0, 1), MAX_LENGTH), tuple(enumerate(binomials)))
        told = tuple((-99 * MAX_LENGTH + 198 * at, amount * (-1) ** at) for at, amount in enumerate(binomials))
        self.assertEqual(spread(every(2), "+-", (-99, 99), MAX_LENGTH), told)

    def test_long_chains(self):
        with at_once():
            found = spread(chain(MAX_ROWS, 4), "++-+", (99, -99, 17, 3), MAX_LENGTH)
            self.assertEqual(found, ((39402, 1), (39504, 1), (39518, -1), (39600, 1)))
            self.assertEqual(spread(chain(MAX_ROWS, 4), "-+-+", (99, -99, 17, 3), MAX_ROWS - 1), ((99 * 399, -1),))

    def test_sums_add_up_to_the_signed_count(self):
        chance = random.Random(8)
        for letters in range(1, MAX_LETTERS + 1):
            machine, (signs, weights) = any_machine(chance, 9, letters, 0.1), two_of(chance, letters)
            for length in (3, 40, 90):
                found = spread(machine, signs, weights, length)
                self.assertEqual(sum(amount for weight, amount in found), signed(machine, signs, length))

    def test_results_are_plain(self):
        found = spread(KIND, "+-", (1, -2), 6)
        self.assertIs(type(found), tuple)
        for item in found:
            self.assertEqual([type(item), *[type(part) for part in item]], [tuple, int, int])


if __name__ == "__main__":
    unittest.main()
