"""Classes of states that have the same sums for all lengths."""

import random
import unittest

from pairedaway.systems import System, arrows_of, classes_of
from tests.helpers import any_machine, at_once, chain, every, reordered, ring, small_machines, told_spreads, two_of


def told_classes(arrows, ends):
    """The classes, told once more: by all states in each round."""
    classes = [int(end) for end in ends]
    while True:
        profiles = []
        for state, row in enumerate(arrows):
            sums = {}
            for goal, weight, total in row:
                sums[classes[goal], weight] = sums.get((classes[goal], weight), 0) + total
            profiles.append((classes[state], frozenset((key, total) for key, total in sums.items() if total)))
        known = {profile: at for at, profile in enumerate(sorted(set(profiles), key=profiles.index))}
        found = [known[profile] for profile in profiles]
        if len(known) == len(set(classes)):
            return found
        classes = found


def same_parts(one, other):
    return len(set(zip(one, other))) == len(set(one)) == len(set(other))


class ClassesTest(unittest.TestCase):
    def assert_classes(self, machine, signs, weights):
        arrows = arrows_of(machine, signs, weights, 0)
        found = classes_of(arrows, machine[2])
        self.assertTrue(same_parts(found, told_classes(arrows, machine[2])))

    def test_small_machines(self):
        for machine in small_machines():
            for signs in ("++", "+-"):
                self.assert_classes(machine, signs, (0, 0))
                self.assert_classes(machine, signs, (0, 1))

    def test_machines_of_any_form(self):
        chance = random.Random(1)
        for _ in range(300):
            letters, gaps, ends = chance.randint(1, 4), chance.choice((0.0, 0.3, 0.7)), chance.choice((0.1, 0.5))
            machine = any_machine(chance, chance.randint(1, 25), letters, gaps, ends)
            signs = two_of(chance, letters)[0]
            self.assert_classes(machine, signs, tuple(chance.randint(0, 1) for letter in range(letters)))

    def test_states_that_are_there_twice(self):
        chance = random.Random(2)
        for states in (3, 20):
            letters, rows, ends = any_machine(chance, states, 3, 0.1)
            twice = tuple(
                tuple(None if goal is None else goal + chance.choice((0, states)) for goal in row) for row in rows * 2
            )
            found = classes_of(arrows_of((letters, twice, ends * 2), "+-+", (0, 0, 1), 0), ends * 2)
            self.assertEqual(found[:states], found[states:])

    def test_long_machines(self):
        for machine in (chain(400), chain(400, 4), ring(400, 2)):
            with at_once():
                found = classes_of(arrows_of(machine, "++++"[:machine[0]], (0, 0, 0, 0)[:machine[0]], 0), machine[2])
            self.assertEqual(len(set(found)), 400)


class SystemTest(unittest.TestCase):
    def test_machines_that_are_alike_have_one_start(self):
        chance = random.Random(3)
        for states in (1, 8, 50):
            machine, (signs, weights) = any_machine(chance, states, 3, 0.1), two_of(chance, 3)
            system = System([(machine, signs, weights), (reordered(chance, machine, 9), signs, weights)])
            self.assertEqual(system.starts[0], system.starts[1])
            self.assertLessEqual(system.size, states)

    def test_only_what_matters_counts(self):
        self.assertEqual(System([(every(2), "+-", (0, 0))]).size, 1)
        self.assertEqual(System([(chain(9), "+", (0,)), (chain(4), "+", (0,))]).size, 9)
        cancelled = (2, ((1, 1), (2, 2), (0, 1)), (True, False, True))
        self.assertEqual([System([(cancelled, signs, (0, 0))]).size for signs in ("+-", "++")], [1, 3])
        self.assertEqual(System([((2, ((0, 1), (2, 2), (1, 1)), (True, False, False)), "++", (0, 0))]).size, 1)

    def test_sums(self):
        chance = random.Random(4)
        for _ in range(100):
            parts = []
            for letters in (chance.randint(1, 4), chance.randint(1, 4)):
                parts.append((any_machine(chance, chance.randint(1, 6), letters, 0.3), *two_of(chance, letters)))
            system = System(parts)
            told = [told_spreads(*part, 6) for part in parts]
            # A number so great that the sums of each weight can be read from it.
            marks = [
                [(1 if sign == "+" else -1, 40 * (weight + 99)) for sign, weight in zip(part[1], part[2])] for part in parts
            ]
            sums = system.ends
            for length in range(7):
                for start, spreads in zip(system.starts, told):
                    packed = sum(amount << 40 * (weight + 99 * length) for weight, amount in spreads[length])
                    self.assertEqual(sums[start], packed)
                sums = system.step(sums, marks)


if __name__ == "__main__":
    unittest.main()
