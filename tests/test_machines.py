"""Machines put together: smallest, both, either, less and apart."""

import copy
import itertools
import random
import unittest

from pairedaway.bounds import MAX_LENGTH, MAX_ROWS
from pairedaway.errors import PairError, TooGreat
from pairedaway.machines import apart, both, either, less, smallest
from pairedaway.recurrences import recurrence
from pairedaway.weighing import count, signed, spread, unlike, unlike_spread
from pairedaway.words import is_of, machine_error
from tests.helpers import (
    any_machine, at_once, chain, every, is_plain, reordered, ring, small_machines, told_signed, told_spreads, told_words,
)

ONE, OTHER = (2, ((1, 0), (0, 1)), (True, False)), (2, ((0, 1), (None, 1)), (True, True))
JOINS = (
    (both, lambda first, second: first and second),
    (either, lambda first, second: first or second),
    (less, lambda first, second: first and not second),
)


def no_word(letters):
    """The smallest machine without words."""
    return (letters, ((None,) * letters,), (False,))


def line(states, letters=1):
    """A machine of just one word, of so many letters less one, all of them "a"."""
    rows = [(state + 1,) + (None,) * (letters - 1) for state in range(states - 1)] + [(None,) * letters]
    return (letters, tuple(rows), (False,) * (states - 1) + (True,))


def of_length(states, letters):
    """A machine of all words with so many letters less one."""
    rows = tuple((state + 1,) * letters for state in range(states - 1)) + ((None,) * letters,)
    return (letters, rows, (False,) * (states - 1) + (True,))


def told_smallest(machine):
    """The smallest machine, told once more: states are parted until no letter parts any more."""
    letters, rows, ends = machine
    goals = {None: (None,) * letters, **dict(enumerate(rows))}
    kinds = {state: state is not None and ends[state] for state in goals}
    many = 0
    while len(set(kinds.values())) > many:
        many = len(set(kinds.values()))
        finer = {state: (kinds[state], *(kinds[goal] for goal in row)) for state, row in goals.items()}
        numbers = {kind: number for number, kind in enumerate(dict.fromkeys(finer.values()))}
        kinds = {state: numbers[kind] for state, kind in finer.items()}
    order, places = [0], {kinds[0]: 0}
    for state in order:
        for goal in rows[state]:
            if kinds[goal] not in places and kinds[goal] != kinds[None]:
                places[kinds[goal]] = len(places)
                order.append(goal)
    places[kinds[None]] = None
    found = tuple(tuple(places[kinds[goal]] for goal in rows[state]) for state in order)
    return (letters, found if kinds[0] != kinds[None] else ((None,) * letters,), tuple(ends[state] for state in order))


def told_pairs(one, other, wanted):
    """A machine, of as many states as it takes, that reads both machines side by side."""
    letters = one[0]
    order, places = [(0, 0)], {(0, 0): 0}
    rows = []
    for state, beside in order:
        row = []
        for letter in range(letters):
            pair = tuple(
                None if place is None else machine[1][place][letter] for machine, place in ((one, state), (other, beside))
            )
            if pair not in places:
                places[pair] = len(places)
                order.append(pair)
            row.append(places[pair])
        rows.append(tuple(row))
    ends = tuple(
        wanted(state is not None and one[2][state], beside is not None and other[2][beside]) for state, beside in order
    )
    return (letters, tuple(rows), ends)


def told_apart(one, other):
    """The first word of just one of the machines: the first one that leads to an end of both read side by side."""
    rows, ends = told_pairs(one, other, lambda first, second: first != second)[1:]
    reached, ahead = {0}, [(0, "")]
    for state, word in ahead:
        if ends[state]:
            return word
        for letter, goal in zip("abcd", rows[state]):
            if goal not in reached:
                reached.add(goal)
                ahead.append((goal, word + letter))
    return None


class ExampleTest(unittest.TestCase):
    def test_smallest(self):
        self.assertEqual(smallest((2, ((1, 2), (1, 2), (1, 2)), (True, True, True))), (2, ((0, 0),), (True,)))
        self.assertEqual(smallest((1, ((1,), (1,)), (True, False))), (1, ((None,),), (True,)))

    def test_apart(self):
        self.assertEqual(apart(ONE, OTHER), "a")

    def test_both(self):
        self.assertEqual(both(ONE, (2, ((None, 0),), (True,))), (2, ((None, 0),), (True,)))

    def test_less(self):
        self.assertEqual(less(ONE, ONE), (2, ((None, None),), (False,)))


class SmallestTest(unittest.TestCase):
    def assert_smallest(self, machine, wanted):
        self.assertEqual(smallest(machine), wanted)
        self.assertTrue(is_plain(smallest(machine)))
        self.assertEqual(smallest(wanted), wanted)

    def test_all_machines_of_two_states(self):
        for machine in small_machines():
            self.assert_smallest(machine, told_smallest(machine))

    def test_all_machines_of_one_letter(self):
        for states in range(1, 5):
            for goals in itertools.product((None, *range(states)), repeat=states):
                for ends in itertools.product((False, True), repeat=states):
                    machine = (1, tuple((goal,) for goal in goals), ends)
                    self.assertEqual(smallest(machine), told_smallest(machine))

    def test_same_words(self):
        chance = random.Random(1)
        for _ in range(150):
            machine = any_machine(chance, chance.randint(1, 6), chance.randint(1, 3), gaps=0.3)
            self.assertEqual(told_words(smallest(machine), 6), told_words(machine, 6))

    def test_any(self):
        chance = random.Random(2)
        for _ in range(300):
            states, letters = chance.randint(1, 12), chance.randint(1, 4)
            machine = any_machine(chance, states, letters, chance.choice((0.0, 0.3, 0.7)), chance.choice((0.1, 0.5)))
            self.assert_smallest(machine, told_smallest(machine))

    def test_no_words(self):
        for letters in range(1, 5):
            self.assert_smallest((letters, ((0,) * letters,), (False,)), no_word(letters))
            self.assert_smallest((letters, ((None,) * letters,), (False,)), no_word(letters))
            # Ends that nothing leads to.
            self.assert_smallest((letters, ((1,) * letters, (0,) * letters, (2,) * letters), (False, False, True)),
                                 no_word(letters))

    def test_empty_word_alone(self):
        for letters in range(1, 5):
            wanted = (letters, ((None,) * letters,), (True,))
            self.assert_smallest(wanted, wanted)
            self.assert_smallest((letters, ((1,) * letters, (1,) * letters), (True, False)), wanted)

    def test_states_twice(self):
        self.assert_smallest((1, ((1,), (2,), (3,), (0,)), (True, False, True, False)), (1, ((1,), (0,)), (True, False)))
        self.assert_smallest(ring(400)[:2] + ((True, False) * 200,), ring(2))
        self.assert_smallest(ring(400, 4)[:2] + ((True,) * 400,), every(4))
        machine = ring(400, 4)[:2] + ((True, False, False, True) * 100,)
        self.assert_smallest(machine, (4, tuple((goal,) * 4 for goal in (1, 2, 3, 0)), machine[2][:4]))

    def test_order_of_states(self):
        """The states come in the order of the first words that lead to them: "", "a", "b", "aa", "ab", "ba" .."""
        machine = (2, ((2, 1), (5, 4), (3, 0), (3, None), (None, 4), (1, 5)), (False, True, False, True, True, False))
        wanted = (2, ((1, 2), (3, 0), (4, 5), (3, None), (2, 4), (None, 5)), (False, False, True, True, False, True))
        self.assert_smallest(machine, wanted)

    def test_states_in_another_order(self):
        chance = random.Random(3)
        for _ in range(100):
            machine = any_machine(chance, chance.randint(1, 30), chance.randint(1, 4), gaps=0.2)
            self.assertEqual(smallest(reordered(chance, machine, chance.randint(0, 5))), smallest(machine))

    def test_items_that_lead_to_no_end(self):
        self.assert_smallest((2, ((0, 1), (1, 1)), (True, False)), (2, ((0, None),), (True,)))
        self.assert_smallest((2, ((1, 2), (2, 0), (2, 2)), (True, False, False)),
                             (2, ((1, None), (None, 0)), (True, False)))

    def test_long(self):
        with at_once():
            for letters in range(1, 5):
                for states in (2, 3, 399, 400):
                    self.assert_smallest(ring(states, letters), ring(states, letters))
                    self.assert_smallest(chain(states, letters), chain(states, letters))
                    self.assert_smallest(line(states, letters), line(states, letters))
                    self.assert_smallest(of_length(states, letters), of_length(states, letters))
            chance = random.Random(4)
            machine = any_machine(chance, MAX_ROWS, 4)
            self.assert_smallest(reordered(chance, machine), told_smallest(machine))


class JoinTest(unittest.TestCase):
    def assert_joined(self, one, other):
        for join, wanted in JOINS:
            told = told_smallest(told_pairs(one, other, wanted))
            self.assertLessEqual(len(told[1]), MAX_ROWS)
            found = join(one, other)
            self.assertEqual(found, told)
            self.assertTrue(is_plain(found))
            self.assertIsNone(machine_error(found))

    def test_words(self):
        """Against the texts that both machines read."""
        chance = random.Random(5)
        for _ in range(100):
            letters = chance.randint(1, 3)
            one, other = (any_machine(chance, chance.randint(1, 4), letters, gaps=0.3) for _ in range(2))
            for join, wanted in JOINS:
                told = [
                    word for word in told_words(every(letters), 5) if wanted(is_of(one, word), is_of(other, word))
                ]
                self.assertEqual(told_words(join(one, other), 5), told)

    def test_all_pairs_of_small_machines(self):
        chance = random.Random(6)
        machines = list(small_machines())
        for _ in range(400):
            self.assert_joined(*chance.sample(machines, 2))

    def test_any(self):
        chance = random.Random(7)
        for _ in range(200):
            letters = chance.randint(1, 4)
            one, other = (
                any_machine(chance, chance.randint(1, 9), letters, chance.choice((0.0, 0.3, 0.6)), chance.random())
                for _ in range(2)
            )
            self.assert_joined(one, other)
            self.assert_joined(one, one)

    def test_no_words(self):
        for machine in small_machines():
            for nothing in (no_word(2), (2, ((1, 0), (0, 0)), (False, False))):
                self.assertEqual(both(machine, nothing), no_word(2))
                self.assertEqual(both(nothing, machine), no_word(2))
                self.assertEqual(either(machine, nothing), smallest(machine))
                self.assertEqual(either(nothing, machine), smallest(machine))
                self.assertEqual(less(machine, nothing), smallest(machine))
                self.assertEqual(less(nothing, machine), no_word(2))

    def test_all_words(self):
        for machine in small_machines():
            self.assertEqual(both(machine, every(2)), smallest(machine))
            self.assertEqual(either(every(2), machine), every(2))
            self.assertEqual(less(machine, every(2)), no_word(2))
            self.assertEqual(less(every(2), less(every(2), machine)), smallest(machine))

    def test_most_states(self):
        with at_once():
            # 16 * 25 states.
            self.assertEqual(both(ring(16), ring(25)), ring(400))
            self.assertEqual(both(ring(25, 4), ring(16, 4)), ring(400, 4))
            self.assertEqual(both(ring(80), ring(50)), ring(400))
            for join in (either, less):
                self.assertEqual(len(join(ring(16), ring(25))[1]), 400)
                self.assertEqual(len(join(ring(25, 4), ring(16, 4))[1]), 400)
            self.assertEqual(either(chain(400, 4), no_word(4)), chain(400, 4))
            self.assertEqual(both(chain(400, 2), chain(400, 2)), chain(400, 2))
            self.assertEqual(either(line(400), line(399))[1], line(400)[1])
            self.assertEqual(less(line(400), line(399)), line(400))

    def test_one_state_too_many(self):
        """Rings with a first state of their own: 400 states, and 401."""
        empty, other = (1, ((None,),), (True,)), (1, ((1,), (1,)), (False, True))
        for states in (399, 400):
            cases = (
                (less, ring(states), empty),
                (both, ring(states), other),
                (either, (1, ring(states)[1], (False, True) + (False,) * (states - 2)), empty),
            )
            for join, one, two in cases:
                if states == 399:
                    self.assertEqual(len(join(one, two)[1]), 400)
                    self.assertEqual(told_words(join(one, two), 800), [
                        word for word in told_words(every(1), 800)
                        if dict(JOINS)[join](is_of(one, word), is_of(two, word))
                    ])
                else:
                    self.assertRaises(TooGreat, join, one, two)
        for join in (both, either, less):
            self.assertRaises(TooGreat, join, ring(134), ring(3))

    def test_too_great(self):
        with at_once(60):
            for join in (both, either, less):
                for letters in (1, 4):
                    for one, other in ((21, 20), (29, 31), (399, 400), (397, 389)):
                        with self.assertRaises(TooGreat) as caught:
                            join(ring(one, letters), ring(other, letters))
                        self.assertIsInstance(caught.exception, PairError)
                chance = random.Random(8)
                self.assertRaises(TooGreat, join, any_machine(chance, 400, 4), any_machine(chance, 400, 4))

    def test_walked_further_than_the_result(self):
        """More pairs of states than a machine may have, of which few are left."""
        with at_once(60):
            one, other = ring(399, 2), ring(400, 2)
            odd = (2, one[1] + ((None, None),), (False,) * 399 + (True,))
            self.assertEqual(both(odd, other), no_word(2))
            self.assertEqual(less(odd, other), no_word(2))
            self.assertEqual(either(odd, other), other)
            # The words of no more than 398 letters and those of at least 400 have none in common.
            short = (1, tuple((state + 1,) for state in range(398)) + ((None,),), (True,) * 399)
            long = (1, tuple((min(state + 1, 399),) for state in range(400)), (False,) * 399 + (True,))
            self.assertEqual(both(short, long), no_word(1))
            # A ring whose words all have an even length, and one whose words all have an odd one.
            even = (1, ring(398)[1], (True,) + (False,) * 397)
            uneven = (1, ring(400)[1], (False, True) + (False,) * 398)
            self.assertEqual(both(even, uneven), no_word(1))
            self.assertEqual(less(even, uneven), even)
            # The second letter of the alphabet ends all that was counted.
            counting = (2, tuple(((state + 1) % 30, 30) for state in range(30)) + ((30, 30),), (False,) * 30 + (True,))
            others = (2, tuple(((state + 1) % 31, 31) for state in range(31)) + ((31, 31),), (True,) * 31 + (True,))
            self.assertEqual(len(both(counting, others)[1]), 2)

    def test_arguments_stay(self):
        for join in (both, either, less, apart):
            one, other = copy.deepcopy(ONE), copy.deepcopy(OTHER)
            first = join(one, other)
            self.assertEqual((one, other), (ONE, OTHER))
            self.assertEqual(join(one, other), first)


class ApartTest(unittest.TestCase):
    def assert_apart(self, one, other, wanted):
        self.assertEqual(apart(one, other), wanted)
        self.assertEqual(apart(other, one), wanted)

    def test_same_words(self):
        chance = random.Random(9)
        for _ in range(100):
            machine = any_machine(chance, chance.randint(1, 40), chance.randint(1, 4), gaps=0.2)
            self.assert_apart(machine, machine, None)
            self.assert_apart(machine, reordered(chance, machine, 5), None)
            self.assert_apart(machine, smallest(machine), None)
        self.assert_apart(no_word(2), (2, ((1, 0), (0, 0)), (False, False)), None)

    def test_empty_word(self):
        self.assert_apart(every(2), (2, ((1, 1), (1, 1)), (False, True)), "")
        self.assert_apart(no_word(3), every(3), "")

    def test_all_pairs_of_small_machines(self):
        machines = list(small_machines())[::5]
        for one, other in itertools.combinations(machines, 2):
            self.assert_apart(one, other, told_apart(one, other))

    def test_first_of_several(self):
        # They part by "b", "aa", "ab" and longer words, and by neither "" nor "a".
        self.assert_apart((2, ((1, None), (None, None)), (True, True)), every(2), "b")
        # Of one length the first one counts, whatever machine it is of.
        one = (3, ((1, None, 1), (None, None, None)), (False, True))
        other = (3, ((None, 1, 1), (None, None, None)), (False, True))
        self.assert_apart(one, other, "a")
        self.assert_apart(one, (3, ((1, 1, None), (None, None, None)), (False, True)), "b")

    def test_any(self):
        chance = random.Random(10)
        for _ in range(400):
            letters = chance.randint(1, 4)
            one = any_machine(chance, chance.randint(1, 12), letters, chance.choice((0.0, 0.3)), chance.choice((0.1, 0.5)))
            other = any_machine(chance, chance.randint(1, 12), letters, chance.choice((0.0, 0.3)), 0.2)
            self.assert_apart(one, other, told_apart(one, other))
            # One item or one end otherwise.
            rows, ends = [list(row) for row in one[1]], list(one[2])
            at = chance.randrange(len(rows))
            if chance.random() < 0.5:
                ends[at] = not ends[at]
            else:
                rows[at][chance.randrange(letters)] = chance.choice((None, *range(len(rows))))
            changed = (letters, tuple(map(tuple, rows)), tuple(ends))
            self.assert_apart(one, changed, told_apart(one, changed))

    def test_part_at_a_great_length(self):
        with at_once():
            self.assert_apart(ring(399), ring(400), "a" * 399)
            self.assert_apart(ring(200), ring(400), "a" * 200)
            self.assert_apart(line(400), line(399), "a" * 398)
            self.assert_apart(line(400, 4), no_word(4), "a" * 399)
            self.assert_apart(chain(400, 2), chain(399, 2), "a" * 398)
            self.assert_apart(of_length(400, 3), line(400, 3), "a" * 398 + "b")
            last = chain(400, 4)
            rows = last[1][:-1] + ((399, 0, 0, 399),)
            self.assert_apart(last, (4, rows, last[2]), "a" * 399 + "d")

    def test_part_later_than_either_has_states(self):
        """Rings of all lengths but those that leave one remainder part where both remainders meet."""
        one = (1, ring(19)[1], (True,) * 18 + (False,))
        other = (1, ring(17)[1], (True,) * 17)
        self.assert_apart(one, other, "a" * 18)
        # Their words are of the same lengths up to the sum of both numbers of states, less two.
        first, second = (1, ring(3)[1], (True, False, True)), (1, ring(5)[1], (True, False, True, True, False))
        self.assert_apart(first, second, told_apart(first, second))
        with at_once():
            chance = random.Random(11)
            for _ in range(40):
                sizes = chance.randint(2, 12), chance.randint(2, 12)
                one, other = ((1, ring(size)[1], tuple(chance.random() < 0.8 for _ in range(size))) for size in sizes)
                self.assert_apart(one, other, told_apart(one, other))


class MadeMachinesTest(unittest.TestCase):
    """Counts, spreads, unlike, unlike_spread and recurrence of machines that are made here."""

    def test_counts_and_spreads(self):
        chance = random.Random(12)
        for _ in range(40):
            letters = chance.randint(1, 3)
            one, other = (any_machine(chance, chance.randint(1, 5), letters, gaps=0.2) for _ in range(2))
            signs = "".join(chance.choice("+-") for _ in range(letters))
            weights = tuple(chance.randint(-2, 2) for _ in range(letters))
            for machine in (smallest(one), both(one, other), either(one, other), less(one, other)):
                told, spreads = told_signed(machine, signs, 12), told_spreads(machine, signs, weights, 6)
                self.assertEqual([signed(machine, signs, length) for length in range(13)], told)
                self.assertEqual([spread(machine, signs, weights, length) for length in range(7)], spreads)

    def test_sums_of_parts(self):
        """What is of both, and what is of just one, add up to one; lengths up to the greatest."""
        chance = random.Random(13)
        for _ in range(20):
            letters = chance.randint(1, 4)
            one, other = (any_machine(chance, chance.randint(1, 6), letters, gaps=0.1) for _ in range(2))
            signs = "".join(chance.choice("+-") for _ in range(letters))
            parts = both(one, other), less(one, other), less(other, one), either(one, other)
            for length in (0, 1, 2, 3, 50, MAX_LENGTH):
                shared, first, second, all_words = (signed(part, signs, length) for part in parts)
                self.assertEqual(shared + first, signed(one, signs, length))
                self.assertEqual(shared + second, signed(other, signs, length))
                self.assertEqual(shared + first + second, all_words)
                self.assertEqual(count(one, length) + count(parts[2], length), count(parts[3], length))

    def test_greatest_results(self):
        with at_once():
            found = both(ring(16), ring(25))
            self.assertEqual([length for length in range(MAX_LENGTH + 1) if count(found, length)], [0, 400])
            self.assertEqual(signed(found, "-", 400), 1)
            self.assertEqual(recurrence(found, "-"), (0,) * 399 + (1,))
            self.assertIsNone(unlike(found, "-", ring(400), "-"))
            self.assertEqual(unlike(found, "-", ring(200), "-"), 200)
            found = either(ring(16, 2), ring(25, 2))
            told = told_signed(found, "+-", 400)
            self.assertEqual([signed(found, "++", length) for length in (0, 16, 25, 26, 400)],
                             [1, 2 ** 16, 2 ** 25, 0, 2 ** 400])
            self.assertEqual([signed(found, "+-", length) for length in (0, 16, 25, 26, 400)],
                             [told[length] for length in (0, 16, 25, 26, 400)])
            self.assertEqual(spread(found, "++", (0, 99), 16)[:2], ((0, 1), (99, 16)))
            self.assertEqual(unlike_spread(found, ("++", (0, 1)), ring(16, 2), ("++", (0, 1))), 25)

    def test_smallest_has_the_same_sums(self):
        chance = random.Random(14)
        for _ in range(40):
            letters = chance.randint(1, 4)
            machine = any_machine(chance, chance.randint(1, 20), letters, gaps=0.2)
            least = smallest(machine)
            signs = "".join(chance.choice("+-") for _ in range(letters))
            weights = tuple(chance.randint(-99, 99) for _ in range(letters))
            self.assertIsNone(unlike(machine, signs, least, signs))
            self.assertIsNone(unlike_spread(machine, (signs, weights), least, (signs, weights)))
            self.assertEqual(recurrence(machine, signs), recurrence(least, signs))


if __name__ == "__main__":
    unittest.main()
