"""Whether two machines have the same signed counts, and the same spreads, for all lengths: unlike and unlike_spread."""

import copy
import itertools
import random
import unittest

from pairedaway.bounds import MAX_LENGTH, MAX_LETTERS, MAX_ROWS
from pairedaway.weighing import signed, spread, unlike, unlike_spread
from tests.helpers import (
    any_machine, at_once, chain, every, reordered, ring, small_machines, told_signed, told_spreads, two_of,
)

KIND = (2, ((0, 1), (0, None)), (True, True))
NO_WORD = (3, ((0, 0, 0),), (False,))
EMPTY_WORD = (1, ((None,),), (True,))


def ring_of(ends):
    """A machine of one letter with a state for each end."""
    return (1, tuple(((state + 1) % len(ends),) for state in range(len(ends))), tuple(ends))


def rings_alike_long(one, other):
    """Two rings with so many states, without a common divisor, that part as late as they can: at one + other - 2."""
    alike = list(range(one + other - 2))

    def first(place):
        while alike[place] != place:
            place = alike[place]
        return place

    for period in (one, other):
        for place in range(period, len(alike)):
            low, high = sorted((first(place), first(place - period)))
            alike[high] = low
    ends = [first(place) == first(0) for place in range(len(alike))]
    return ring_of(ends[:one]), ring_of(ends[:other])


def crossed(machine, swap):
    """A machine that leads to four states of this one, by two ways that have the same sums only both together."""
    letters, rows, ends = machine
    moved = [tuple(goal + 5 if goal is not None else None for goal in row) for row in rows]
    rest = (None,) * (letters - 2)
    ways = [(5, 6), (7, 8), (5, 8), (7, 6)]
    start = (3, 4) if swap else (1, 2)
    return (letters, tuple(way + rest for way in [start, *ways]) + tuple(moved), (False,) * 5 + ends)


def first_unlike(told, others):
    return next((length for length, (one, other) in enumerate(zip(told, others)) if one != other), None)


class UnlikeTest(unittest.TestCase):
    def assert_unlike(self, told, one, signs, other, others):
        self.assertEqual(unlike(one, signs, other, others), told)
        self.assertEqual(unlike(other, others, one, signs), told)

    def test_example(self):
        other = (1, ((1,), (None,)), (True, False))
        self.assert_unlike(None, every(2), "+-", other, "+")
        self.assert_unlike(1, every(2), "++", other, "+")

    def test_small_machines(self):
        chance = random.Random(1)
        machines = list(small_machines())
        for one in machines:
            for other in chance.sample(machines, 8):
                signs, others = chance.choice(("++", "+-", "-+", "--")), chance.choice(("++", "+-", "-+", "--"))
                told = first_unlike(told_signed(one, signs, 12), told_signed(other, others, 12))
                self.assert_unlike(told, one, signs, other, others)

    def test_machines_of_any_form(self):
        chance = random.Random(2)
        for _ in range(400):
            letters, more = chance.randint(1, 4), chance.randint(1, 4)
            one, signs = any_machine(chance, chance.randint(1, 4), letters, 0.4), two_of(chance, letters)[0]
            other, others = any_machine(chance, chance.randint(1, 4), more, 0.4), two_of(chance, more)[0]
            told = first_unlike(told_signed(one, signs, 20), told_signed(other, others, 20))
            self.assert_unlike(told, one, signs, other, others)

    def test_unlike_numbers_of_letters(self):
        self.assert_unlike(None, every(1), "+", every(3), "+-+")
        self.assert_unlike(None, every(2), "--", every(4), "---+")
        self.assert_unlike(None, every(2), "-+", (4, ((None,) * 4,), (True,)), "++++")
        self.assert_unlike(1, every(1), "+", every(4), "++++")
        self.assert_unlike(None, (2, ((None, 0),), (True,)), "-+", every(1), "+")

    def test_the_same_machine(self):
        for machine in small_machines():
            self.assert_unlike(None, machine, "+-", machine, "+-")
        for letters in range(1, MAX_LETTERS + 1):
            machine = any_machine(random.Random(3), MAX_ROWS, letters)
            with at_once():
                self.assert_unlike(None, machine, "+--+"[:letters], machine, "+--+"[:letters])

    def test_states_in_another_order_and_spare_rows(self):
        chance = random.Random(4)
        for states in (1, 2, 5, 30, 100):
            for letters in range(1, MAX_LETTERS + 1):
                machine, signs = any_machine(chance, states, letters, 0.1), two_of(chance, letters)[0]
                for spare in (0, 1, 20):
                    self.assert_unlike(None, machine, signs, reordered(chance, machine, spare), signs)
        machine = any_machine(chance, 300, 4)
        with at_once():
            self.assert_unlike(None, machine, "+-++", reordered(chance, machine, 100), "+-++")

    def test_letters_in_another_order(self):
        chance = random.Random(5)
        letters, rows, ends = any_machine(chance, 9, 4)
        for order in itertools.permutations(range(4)):
            other = (letters, tuple(tuple(row[at] for at in order) for row in rows), ends)
            self.assert_unlike(None, (letters, rows, ends), "+--+", other, "".join("+--+"[at] for at in order))

    def test_states_that_are_there_twice(self):
        chance = random.Random(6)
        letters, rows, ends = any_machine(chance, 12, 3, 0.2)
        twice = [tuple(None if goal is None else chance.choice((goal, goal + 12)) for goal in row) for row in rows + rows]
        self.assert_unlike(None, (letters, rows, ends), "+-+", (letters, tuple(twice), ends + ends), "+-+")

    def test_sums_that_are_alike_only_together(self):
        chance = random.Random(7)
        for states in (4, 10, 100):
            machine = any_machine(chance, states, 3, 0.1)
            for signs in ("+++", "--+"):
                self.assert_unlike(None, crossed(machine, False), signs, crossed(machine, True), signs)

    def test_machines_that_part_at_length_0(self):
        self.assert_unlike(0, every(2), "+-", NO_WORD, "+++")
        self.assert_unlike(0, EMPTY_WORD, "+", (1, ((0,),), (False,)), "+")
        self.assert_unlike(0, ring(5), "-", (1, ((0,),), (False,)), "+")

    def test_machines_without_words(self):
        self.assert_unlike(None, NO_WORD, "+-+", (1, ((None,), (0,)), (False, True)), "-")
        self.assert_unlike(1, NO_WORD, "+-+", (1, ((1,), (None,)), (False, True)), "-")
        self.assert_unlike(399, NO_WORD, "+-+", chain(MAX_ROWS), "-")

    def test_signs_by_which_all_cancels(self):
        self.assert_unlike(None, every(4), "+-+-", EMPTY_WORD, "-")
        apart = (2, ((1, 2), (1, 1), (2, 2)), (True, True, True))
        self.assert_unlike(None, apart, "-+", EMPTY_WORD, "+")
        self.assert_unlike(1, apart, "++", EMPTY_WORD, "+")
        # Only words of even length, half of each sign, behind a first letter.
        late = (3, ((1, None, None), (2, 2, 2), (1, 1, 1)), (False, False, True))
        self.assert_unlike(None, late, "+-+", late, "+-+")
        self.assert_unlike(2, late, "+-+", NO_WORD, "+++")
        none = (3, ((1, 2, 3), (1, 1, 1), (2, 2, 2), (3, 3, 3)), (True, True, True, False))
        self.assert_unlike(None, none, "+-+", EMPTY_WORD, "+")

    def test_words_that_cancel_late(self):
        # The two ways have words of the same lengths, but of unlike signs.
        both = (2, ((1, 1), (2, 2), (3, 4), (3, None), (4, None)), (False, False, False, True, True))
        self.assert_unlike(None, both, "+-", NO_WORD, "+++")
        self.assertEqual(unlike(both, "++", NO_WORD, "+++"), 3)

    def test_signs_that_turn(self):
        self.assert_unlike(1, every(1), "+", every(1), "-")
        self.assert_unlike(None, ring(4), "+", ring(4), "-")
        self.assert_unlike(5, ring(5), "+", ring(5), "-")
        self.assert_unlike(399, ring(399), "+", ring(399), "-")

    def test_chains_that_part_late(self):
        with at_once():
            for letters in range(1, MAX_LETTERS + 1):
                signs = "+++-"[:letters]
                self.assert_unlike(398, chain(MAX_ROWS, letters), signs, chain(MAX_ROWS - 1, letters), signs)
            self.assert_unlike(400, chain(MAX_ROWS, 2), "++", chain(MAX_ROWS, 2), "+-")
            self.assert_unlike(399, chain(MAX_ROWS), "+", chain(MAX_ROWS), "-")

    def test_rings_that_part_late(self):
        with at_once():
            self.assert_unlike(200, ring(200), "+", ring(400), "+")
            self.assert_unlike(399, ring(399), "+", ring(400), "+")
            self.assert_unlike(None, ring_of([True, False] * 150), "+", ring_of([True, False] * 200), "-")

    def test_rings_that_part_beyond_the_limit(self):
        with at_once():
            for one, other in ((2, 3), (5, 8), (13, 30), (201, 400), (299, 300), (399, 400)):
                first, second = rings_alike_long(one, other)
                self.assert_unlike(one + other - 2, first, "+", second, "+")
        self.assertGreater(399 + 400 - 2, MAX_LENGTH)

    def test_machines_that_part_at_the_end_of_a_chain(self):
        rows = tuple((state + 1, 0) if state < 300 else (state, state) for state in range(301))
        far = (2, rows, (True,) * 300 + (False,))
        near = (2, rows, (True,) * 301)
        self.assert_unlike(300, far, "++", near, "++")

    def test_length_is_the_least_one(self):
        chance = random.Random(8)
        for states in (20, 60):
            machine = any_machine(chance, states, 2, 0.1)
            for state in range(states):
                ends = tuple(end if at != state else not end for at, end in enumerate(machine[2]))
                other = (2, machine[1], ends)
                told = first_unlike(told_signed(machine, "++", 2 * states), told_signed(other, "++", 2 * states))
                self.assert_unlike(told, machine, "++", other, "++")

    def test_arguments_stay_as_they_were_and_equal_calls_agree(self):
        one, other = copy.deepcopy(KIND), copy.deepcopy(chain(5, 2))
        first = unlike(one, "+-", other, "++")
        unlike(every(2), "++", NO_WORD, "+++")
        self.assertEqual(unlike(copy.deepcopy(one), "+-", copy.deepcopy(other), "++"), first)
        self.assertEqual((repr(one), repr(other)), (repr(KIND), repr(chain(5, 2))))

    def test_result_is_an_integer(self):
        self.assertIs(type(unlike(every(1), "+", NO_WORD, "+++")), int)
        self.assertIs(type(unlike(chain(4), "+", chain(5), "+")), int)


class UnlikeSpreadTest(unittest.TestCase):
    def assert_unlike(self, told, one, first, other, second):
        self.assertEqual(unlike_spread(one, first, other, second), told)
        self.assertEqual(unlike_spread(other, second, one, first), told)

    def test_example(self):
        self.assert_unlike(None, every(2), ("++", (0, 1)), every(2), ("++", (1, 0)))
        self.assert_unlike(1, every(2), ("++", (0, 1)), every(1), ("+", (0,)))

    def test_small_machines(self):
        chance = random.Random(9)
        machines = list(small_machines())
        for one in machines:
            for other in chance.sample(machines, 6):
                first = (chance.choice(("++", "+-", "--")), (chance.randint(-1, 1), chance.randint(-1, 1)))
                second = (chance.choice(("++", "+-", "--")), (chance.randint(-1, 1), chance.randint(-1, 1)))
                told = first_unlike(told_spreads(one, *first, 8), told_spreads(other, *second, 8))
                self.assert_unlike(told, one, first, other, second)

    def test_machines_of_any_form(self):
        chance = random.Random(10)
        for _ in range(250):
            letters, more = chance.randint(1, 3), chance.randint(1, 3)
            one, first = any_machine(chance, chance.randint(1, 3), letters, 0.5), two_of(chance, letters)
            other, second = any_machine(chance, chance.randint(1, 3), more, 0.5), two_of(chance, more)
            told = first_unlike(told_spreads(one, *first, 10), told_spreads(other, *second, 10))
            self.assert_unlike(told, one, first, other, second)

    def test_weights_that_are_all_0(self):
        chance = random.Random(11)
        for _ in range(100):
            one, other = any_machine(chance, 3, 2, 0.4), any_machine(chance, 3, 2, 0.4)
            told = unlike(one, "+-", other, "++")
            self.assert_unlike(told, one, ("+-", (0, 0)), other, ("++", (0, 0)))
            self.assert_unlike(told, one, ("+-", (-7, -7)), other, ("++", (-7, -7)))

    def test_only_the_weights_differ(self):
        self.assert_unlike(1, every(1), ("+", (1,)), every(1), ("+", (2,)))
        self.assert_unlike(1, every(1), ("+", (99,)), every(1), ("+", (-99,)))
        self.assert_unlike(1, every(2), ("++", (0, 2)), every(2), ("++", (1, 1)))
        self.assert_unlike(None, every(2), ("+-", (5, 5)), every(2), ("+-", (7, 7)))
        self.assert_unlike(None, EMPTY_WORD, ("+", (5,)), every(2), ("-+", (-9, -9)))

    def test_only_the_mean_weights_are_alike(self):
        # Two letters of the weights 0 and 2, and two of the weight 1, have the same sum of weights.
        one = (2, ((1, 1), (2, 2), (None, None)), (False, False, True))
        self.assert_unlike(2, one, ("++", (0, 2)), one, ("++", (1, 1)))

    def test_many_words_of_one_weight_for_one_of_another(self):
        # 2 ** length words of the weight 0 must not be taken for a single word of the weight 1.
        for length in (1, 2, 3, 4, 6, 8, 12, 16, 32, 64, 256):
            rows = tuple((state + 1,) * 2 for state in range(length)) + ((None,) * 2,)
            many = (2, rows, (False,) * length + (True,))
            rows = tuple((state + 1, None) for state in range(length - 1)) + ((None, length), (None, None))
            single = (2, rows, (False,) * length + (True,))
            with at_once():
                self.assert_unlike(length, many, ("++", (0, 0)), single, ("++", (0, 1)))
                self.assert_unlike(length, many, ("++", (1, 1)), single, ("++", (1, 0)))

    def test_numbers_that_grow_great(self):
        for length in (5, 10, 40):
            rows = tuple((state + 1,) * 4 for state in range(length)) + ((None,) * 4,)
            one = (4, rows, (False,) * length + (True,))
            for weights in ((0, 0, 0, 1), (0, 0, 0, 0), (0, 0, 0, 99)):
                other = (weights[0], weights[1], weights[3], weights[2])
                self.assert_unlike(None, one, ("++++", weights), one, ("++++", other))
                told = length if any(weights) else None
                self.assert_unlike(told, one, ("++++", weights), one, ("++++", (0, 0, weights[3], weights[3])))

    def test_states_in_another_order_and_spare_rows(self):
        chance = random.Random(12)
        for states in (2, 10, 60):
            for letters in range(1, MAX_LETTERS + 1):
                machine, first = any_machine(chance, states, letters, 0.1), two_of(chance, letters)
                with at_once():
                    self.assert_unlike(None, machine, first, reordered(chance, machine, states // 2), first)
        machine = any_machine(chance, 300, 4)
        with at_once():
            first = ("+-++", (99, -99, 17, 3))
            self.assert_unlike(None, machine, first, reordered(chance, machine, 100), first)

    def test_sums_that_are_alike_only_together(self):
        chance = random.Random(13)
        for states, weights in ((6, (99, 99, -98)), (20, (1, 1, 2)), (60, (0, 0, 1))):
            machine = any_machine(chance, states, 3, 0.1)
            one, other = crossed(machine, False), crossed(machine, True)
            with at_once():
                self.assert_unlike(None, one, ("++-", weights), other, ("++-", weights))

    def test_words_left_by_a_rule(self):
        # By aa and ab, exchanged at the first place, the sign turns and the weight stays: what is left has no such pair.
        left = (3, ((1, 0, 0), (None, None, 0)), (True, True))
        for weights in ((5, 5, -3), (99, 99, -99), (0, 0, 1)):
            self.assert_unlike(None, every(3), ("+-+", weights), left, ("+-+", weights))
            self.assert_unlike(2, every(3), ("+++", weights), left, ("+++", weights))
        self.assert_unlike(2, every(3), ("+-+", (5, 4, -3)), left, ("+-+", (5, 4, -3)))

    def test_machines_that_part_at_length_0(self):
        self.assert_unlike(0, every(2), ("+-", (1, 2)), NO_WORD, ("+++", (1, 2, 3)))

    def test_machines_that_part_late(self):
        with at_once():
            for weight in (0, 1, -99, 99):
                self.assert_unlike(399, ring(399), ("+", (weight,)), ring(400), ("+", (weight,)))
                self.assert_unlike(398, chain(399), ("-", (weight,)), chain(400), ("-", (weight,)))
            self.assert_unlike(399, chain(400), ("+", (98,)), chain(400), ("+", (99,)))
            self.assert_unlike(400, ring(400), ("+", (98,)), ring(400), ("-", (99,)))
            self.assert_unlike(None, ring(400), ("+", (98,)), ring(400), ("-", (98,)))

    def test_machines_of_many_letters_that_part_late(self):
        with at_once():
            for weights in ((1, 0, -1, 2), (99, -99, 17, 3)):
                self.assert_unlike(398, chain(400, 4), ("++-+", weights), chain(399, 4), ("++++", weights))
                self.assert_unlike(400, chain(400, 4), ("++-+", weights), chain(400, 4), ("++++", weights))
            self.assert_unlike(60, ring(60, 2), ("++", (1, 2)), ring(60, 2), ("++", (1, 3)))

    def test_rings_that_part_beyond_the_limit(self):
        with at_once():
            for one, other in ((5, 8), (29, 60), (299, 300), (399, 400)):
                first, second = rings_alike_long(one, other)
                self.assert_unlike(one + other - 2, first, ("+", (-99,)), second, ("+", (-99,)))

    def test_arguments_stay_as_they_were_and_equal_calls_agree(self):
        one, other = copy.deepcopy(KIND), copy.deepcopy(chain(5, 2))
        first, second = ("+-", (1, 2)), ("++", (3, 4))
        told = unlike_spread(one, first, other, second)
        unlike_spread(every(2), first, NO_WORD, ("+++", (0, 0, 0)))
        self.assertEqual(unlike_spread(copy.deepcopy(one), first, copy.deepcopy(other), second), told)
        self.assertEqual((repr(one), repr(other)), (repr(KIND), repr(chain(5, 2))))
        self.assertEqual((first, second), (("+-", (1, 2)), ("++", (3, 4))))

    def test_result_is_an_integer(self):
        self.assertIs(type(unlike_spread(every(1), ("+", (1,)), NO_WORD, ("+++", (0, 0, 0)))), int)
        self.assertIs(type(unlike_spread(chain(4), ("+", (1,)), chain(5), ("+", (1,)))), int)

    def test_agrees_with_spread_and_signed(self):
        chance = random.Random(14)
        for _ in range(60):
            letters = chance.randint(1, 4)
            one, other = any_machine(chance, 5, letters, 0.3), any_machine(chance, 5, letters, 0.3)
            first, second = two_of(chance, letters), two_of(chance, letters)
            at = unlike_spread(one, first, other, second)
            for length in range(10 if at is None else at + 1):
                same = spread(one, *first, length) == spread(other, *second, length)
                self.assertEqual(same, length != at)
            at = unlike(one, first[0], other, second[0])
            for length in range(10 if at is None else at + 1):
                self.assertEqual(signed(one, first[0], length) == signed(other, second[0], length), length != at)


if __name__ == "__main__":
    unittest.main()
