"""The workings of signed and count: step by step, by squares and by layers they tell the same."""

import itertools
import random
import unittest

from pairedaway.bounds import MAX_LENGTH
from pairedaway.sums import FEW, SQUARED, by_squares, by_steps, signed_sum
from pairedaway.systems import sign_values
from pairedaway.weighing import count, signed
from tests.helpers import any_machine, at_once, chain, every, reordered, ring, told_signed


class SumTest(unittest.TestCase):
    def assert_sums(self, machine, signs, most=30):
        told = told_signed(machine, signs, most)
        for length in range(most + 1):
            self.assertEqual(signed(machine, signs, length), told[length])
            for way in (by_steps, by_squares):
                self.assertEqual(way(machine, sign_values(signs), length), told[length])

    def test_all_signs(self):
        chance = random.Random(1)
        for letters in range(1, 5):
            for signs in itertools.product("+-", repeat=letters):
                for states in (1, 2, 3, 7):
                    self.assert_sums(any_machine(chance, states, letters, 0.2), "".join(signs))

    def test_around_the_bounds_of_each_way(self):
        chance = random.Random(2)
        for states in (1, 2, 3, 4, 5):
            machine = any_machine(chance, states, 2, 0.1)
            told = told_signed(machine, "+-", MAX_LENGTH)
            bound = SQUARED * states * states
            for length in (0, 1, bound - 1, bound, bound + 1, bound + 2, MAX_LENGTH - 1, MAX_LENGTH):
                if length <= MAX_LENGTH:
                    self.assertEqual(signed(machine, "+-", length), told[length])
        for states in (FEW - 1, FEW, FEW + 1, 120):
            for gaps in (0.0, 0.3, 0.8):
                machine = any_machine(chance, states, 3, gaps)
                told = told_signed(machine, "-+-", 40)
                for length in (0, 1, 2, 3, 7, 39, 40):
                    self.assertEqual(signed(machine, "-+-", length), told[length])

    def test_great_machines(self):
        with at_once():
            chance = random.Random(3)
            for machine in (any_machine(chance, 400, 4), any_machine(chance, 400, 2, 0.4), chain(400, 3), ring(400, 2)):
                for signs in ("+" * machine[0], "-" * machine[0], ("+-" * 2)[:machine[0]]):
                    told = told_signed(machine, signs, MAX_LENGTH)
                    for length in (0, 1, 5, 399, 400):
                        self.assertEqual(signed(machine, signs, length), told[length])

    def test_states_in_another_order(self):
        chance = random.Random(4)
        for _ in range(40):
            machine = any_machine(chance, chance.randint(1, 8), 3, 0.2)
            spread_out = reordered(chance, machine, 150)
            for length in (0, 1, 2, 3, 30, MAX_LENGTH):
                self.assertEqual(signed(spread_out, "+-+", length), signed(machine, "+-+", length))

    def test_told_inputs(self):
        nine = (4, ((0, 1, 2, 3), (4, 5, 6, 7), (8, 0, 1, 2), (3, 4, 5, 6), (7, 8, 0, 1), (2, 3, 4, 5), (6, 7, 8, 0),
                    (1, 2, 3, 4), (5, 6, 7, 8)), (True,) * 9)
        five = (2, ((1, 2), (2, 3), (3, 4), (4, 0), (0, 1)), (True, False, True, True, False))
        self.assertEqual(signed(nine, "++-+", 400), told_signed(nine, "++-+", 400)[400])
        self.assertEqual(count(nine, 400), 4 ** 400)
        self.assertEqual([signed(five, "+-", length) for length in range(61)], told_signed(five, "+-", 60))
        self.assertEqual([signed(every(1), "+", length) for length in range(61)], [1] * 61)

    def test_no_words(self):
        for states in (1, 5, 101):
            machine = (2, ((0, 1),) + ((1, 1),) * states, (False,) * (states + 1))
            self.assertEqual([signed_sum(machine, "+-", length) for length in (0, 1, 2, 400)], [0, 0, 0, 0])


if __name__ == "__main__":
    unittest.main()
