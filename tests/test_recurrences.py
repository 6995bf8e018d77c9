"""The rule by which signed counts go on: recurrence."""

import copy
import random
import unittest
from fractions import Fraction
from unittest import mock

from pairedaway import recurrences
from pairedaway.bounds import MAX_LETTERS, MAX_ROWS
from pairedaway.recurrences import recurrence
from pairedaway.weighing import signed
from tests.helpers import any_machine, at_once, chain, every, reordered, ring, small_machines, told_signed, two_of

KIND = (2, ((0, 1), (0, None)), (True, True))
SHORT = (1, ((1,), (None,)), (False, True))
# Small ones of the same form: numbers of ones in base 2 that make a prime.
SMALL_POWERS = (2, 3, 5, 7, 13, 17, 19, 31, 61, 89)


def solved(rows, items):
    """The only solution of linear equations, None if there is none, and False if there are several."""
    done = 0
    for column in range(items):
        pivot = next((at for at in range(done, len(rows)) if rows[at][column]), None)
        if pivot is None:
            return False
        rows[done], rows[pivot] = rows[pivot], rows[done]
        rows[done] = [item / rows[done][column] for item in rows[done]]
        for at in range(len(rows)):
            if at != done and rows[at][column]:
                rows[at] = [item - rows[at][column] * own for item, own in zip(rows[at], rows[done])]
        done += 1
    return None if any(row[items] for row in rows[done:]) else tuple(row[items] for row in rows[:items])


def told_recurrence(machine, signs):
    """The shortest rule, told once more: the first length for which the equations have a solution."""
    terms = [Fraction(term) for term in told_signed(machine, signs, 3 * len(machine[1]) + 3)]
    for length in range(len(terms)):
        rows = [[terms[at - back] for back in range(1, length + 1)] + [terms[at]] for at in range(length, len(terms))]
        found = solved(rows, length)
        if found:
            return found
        if found == ():
            return ()


def hankel_is_regular(terms, size, prime=10 ** 9 + 7):
    """Whether no rule with fewer numbers holds: the square of terms has a determinant that the prime does not divide."""
    rows = [[terms[at + more] % prime for more in range(size)] for at in range(size)]
    for column in range(size):
        pivot = next((at for at in range(column, size) if rows[at][column]), None)
        if pivot is None:
            return False
        rows[column], rows[pivot] = rows[pivot], rows[column]
        unit = pow(rows[column][column], -1, prime)
        for at in range(column + 1, size):
            times = rows[at][column] * unit % prime
            if times:
                rows[at] = [(item - times * own) % prime for item, own in zip(rows[at], rows[column])]
    return True


class RecurrenceTest(unittest.TestCase):
    def assert_holds(self, machine, signs, further):
        """The rule holds for all lengths up to so many further ones, and its numbers are integers."""
        found = recurrence(machine, signs)
        self.assertEqual([type(found), *[type(number) for number in found]], [tuple] + [int] * len(found))
        terms = told_signed(machine, signs, len(found) + further)
        for length in range(len(found), len(terms)):
            self.assertEqual(terms[length], sum(number * terms[length - 1 - at] for at, number in enumerate(found)))
        return found, terms

    def test_example(self):
        self.assertEqual(recurrence(KIND, "++"), (1, 1))
        self.assertEqual(recurrence(KIND, "+-"), (1, -1))
        self.assertEqual(recurrence(SHORT, "+"), (0, 0))
        self.assertEqual(recurrence(every(2), "+-"), (0,))
        self.assertEqual(recurrence((1, ((0,),), (False,)), "-"), ())

    def test_small_machines(self):
        for machine in small_machines():
            for signs in ("++", "+-", "--"):
                self.assertEqual(recurrence(machine, signs), told_recurrence(machine, signs))

    def test_machines_of_any_form(self):
        chance = random.Random(1)
        for _ in range(400):
            letters, states = chance.randint(1, MAX_LETTERS), chance.randint(1, 7)
            machine, signs = any_machine(chance, states, letters, 0.4, 0.3), two_of(chance, letters)[0]
            self.assertEqual(recurrence(machine, signs), told_recurrence(machine, signs))
            self.assert_holds(machine, signs, 30)

    def test_all_words(self):
        for letters in range(1, MAX_LETTERS + 1):
            self.assertEqual(recurrence(every(letters), "+" * letters), (letters,))
            self.assertEqual(recurrence(every(letters), "-" * letters), (-letters,))
        self.assertEqual(recurrence(every(3), "+-+"), (1,))

    def test_no_words(self):
        for machine in ((3, ((0, 0, 0),), (False,)), (1, ((None,),), (False,)), (2, ((0, 0), (1, 1)), (False, True))):
            for sign in "+-":
                self.assertEqual(recurrence(machine, sign * machine[0]), ())
        self.assertEqual(recurrence((1, ring(MAX_ROWS)[1], (False,) * MAX_ROWS), "+"), ())

    def test_signed_counts_that_are_all_0(self):
        # The words behind a and those behind b have unlike signs.
        self.assertEqual(recurrence((2, ((1, 1), (1, 1)), (False, True)), "+-"), ())
        self.assertEqual(recurrence((2, ((1, 2), (1, None), (2, None)), (False, True, True)), "+-"), ())
        late = (2, ((1, 2), (3, None), (4, None), (3, 3), (4, 4)), (False,) * 3 + (True,) * 2)
        self.assertEqual(recurrence(late, "-+"), ())

    def test_only_the_empty_word(self):
        for machine, signs in (((1, ((None,),), (True,)), "-"), (every(2), "-+"), (every(4), "+-+-")):
            self.assertEqual(recurrence(machine, signs), (0,))

    def test_last_numbers_that_are_0(self):
        for states in (2, 3, 7, 40):
            rows = tuple((state + 1,) for state in range(states - 1)) + ((None,),)
            only = (1, rows, (False,) * (states - 1) + (True,))
            self.assertEqual(recurrence(only, "+"), (0,) * states)
            self.assertEqual(recurrence(chain(states), "+"), (1,) + (0,) * (states - 1))
            self.assertEqual(recurrence(chain(states), "-"), (-1,) + (0,) * (states - 1))

    def test_rings(self):
        for states in (1, 2, 5, 8, 60, 399, 400):
            with at_once():
                self.assertEqual(recurrence(ring(states), "+"), (0,) * (states - 1) + (1,))
                self.assertEqual(recurrence(ring(states), "-"), (0,) * (states - 1) + ((-1) ** states,))
                self.assertEqual(recurrence(ring(states, 4), "++++"), (0,) * (states - 1) + (4 ** states,))

    def test_long_chains(self):
        with at_once():
            self.assertEqual(recurrence(chain(MAX_ROWS), "+"), (1,) + (0,) * (MAX_ROWS - 1))
            found = recurrence(chain(MAX_ROWS, 3), "++-")
        self.assertEqual(found, recurrence(chain(MAX_ROWS), "+"))
        self.assert_holds(chain(MAX_ROWS, 2), "++", 420)

    def test_holds_far_beyond_and_no_shorter_one_does(self):
        chance = random.Random(2)
        for states, letters, gaps in ((8, 4, 0.0), (8, 2, 0.3), (30, 3, 0.1), (60, 4, 0.0), (60, 1, 0.0), (90, 2, 0.1)):
            machine, signs = any_machine(chance, states, letters, gaps), two_of(chance, letters)[0]
            found, terms = self.assert_holds(machine, signs, 1000)
            self.assertTrue(hankel_is_regular(terms, len(found)))

    def test_400_rows_with_great_numbers(self):
        machine = any_machine(random.Random(3), MAX_ROWS, 4)
        with at_once(60):
            found = recurrence(machine, "+-++")
        self.assertGreater(max(abs(number) for number in found), 2 ** 62)
        terms = [signed(machine, "+-++", length) for length in (*range(1, 9), 399, 400)]
        self.assertEqual(terms, [told_signed(machine, "+-++", 400)[length] for length in (*range(1, 9), 399, 400)])
        told = told_signed(machine, "+-++", 2 * MAX_ROWS + 10)
        for length in range(len(found), len(told)):
            self.assertEqual(told[length], sum(number * told[length - 1 - at] for at, number in enumerate(found)))

    def test_states_in_another_order_and_spare_rows(self):
        chance = random.Random(4)
        for states in (3, 9, 40):
            machine, signs = any_machine(chance, states, 3, 0.1), two_of(chance, 3)[0]
            self.assertEqual(recurrence(machine, signs), recurrence(reordered(chance, machine, states), signs))

    def test_primes_that_are_too_small_or_divide_what_they_may_not(self):
        chance = random.Random(5)
        for _ in range(300):
            letters, states = chance.randint(1, MAX_LETTERS), chance.randint(1, 6)
            machine, signs = any_machine(chance, states, letters, 0.3, 0.3), two_of(chance, letters)[0]
            told = recurrence(machine, signs)
            with mock.patch.object(recurrences, "POWERS", SMALL_POWERS):
                self.assertEqual(recurrence(machine, signs), told)

    def test_counts_that_a_prime_divides(self):
        # By this prime alone, all counts but the first one, or all of them, seem to be 0.
        three = (3, ((1, 1, 1), (None,) * 3), (True, True))
        seven = (4, ((1, 2, None, None), (3, 3, 3, None), (3,) * 4, (None,) * 4), (False, False, False, True))
        for powers in (SMALL_POWERS, SMALL_POWERS[1:], SMALL_POWERS[2:]):
            with mock.patch.object(recurrences, "POWERS", powers):
                self.assertEqual(recurrence(three, "+++"), (0, 0))
                self.assertEqual(recurrence(seven, "++++"), (0, 0, 0))

    def test_machine_stays_as_it_was_and_equal_calls_agree(self):
        machine = copy.deepcopy(KIND)
        first = recurrence(machine, "+-")
        recurrence(every(2), "++")
        self.assertEqual(recurrence(copy.deepcopy(KIND), "+-"), first)
        self.assertEqual(repr(machine), repr(KIND))


if __name__ == "__main__":
    unittest.main()
