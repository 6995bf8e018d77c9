"""What the first letters of words of one length lead to, and the sets of states by which it is worked out."""

import itertools
import random
import unittest

from pairedaway.layers import Links, members, set_of, turned, word_layers
from tests.helpers import any_machine, chain


def goals_of(machine):
    return [[goal for goal in row if goal is not None] for row in machine[1]]


def told_layers(goals, ends, length):
    """The layers, told once more by plain sets."""
    ahead = [{0}]
    for place in range(length):
        ahead.append({goal for state in ahead[place] for goal in goals[state]})
    ahead[length] = {state for state in ahead[length] if ends[state]}
    for place in reversed(range(length)):
        ahead[place] = {state for state in ahead[place] if set(goals[state]) & ahead[place + 1]}
    return ahead


def line(states):
    """One letter leads on, the other one back, and none stays where it is."""
    rows = tuple((max(state - 1, 1 - state), min(state + 1, 2 * states - 3 - state)) for state in range(states))
    return (2, rows, tuple(state in (0, states - 1) for state in range(states)))


class SetTest(unittest.TestCase):
    def test_members_and_set_of(self):
        chance = random.Random(1)
        for states in ([], [0], [399], [0, 399], list(range(400)), sorted(chance.sample(range(400), 77))):
            self.assertEqual(members(set_of(states)), states)

    def test_turned(self):
        self.assertEqual(turned([[1, 1], [0, 2], []]), [[1], [0, 0], [1]])


class LinksTest(unittest.TestCase):
    def test_reach(self):
        chance = random.Random(2)
        for states in (1, 2, 7, 8, 9, 16, 17, 100, 400):
            goals = [chance.sample(range(states), chance.randrange(min(4, states) + 1)) for state in range(states)]
            links = Links([set_of(row) for row in goals])
            for part in (0.0, 0.02, 0.5, 1.0, 0.02, 0.1):
                asked = [state for state in range(states) if chance.random() < part]
                told = sorted({goal for state in asked for goal in goals[state]})
                self.assertEqual(members(links.reach(set_of(asked))), told)

    def test_sets_that_grow_and_shrink(self):
        links = Links([1 << (state * 7 + 3) % 50 for state in range(50)])
        for asked in ([3], [3, 4], [3, 4], list(range(50)), [], [49], [3, 49], [3]):
            told = sorted((state * 7 + 3) % 50 for state in asked)
            self.assertEqual(members(links.reach(set_of(asked))), told)


class WordLayersTest(unittest.TestCase):
    def assert_layers(self, machine, lengths):
        for length in lengths:
            found = [set(members(layer)) for layer in word_layers(goals_of(machine), machine[2], length)]
            self.assertEqual(found, told_layers(goals_of(machine), machine[2], length))

    def test_small_machines(self):
        for items in itertools.product((None, 0, 1), repeat=4):
            for ends in itertools.product((False, True), repeat=2):
                self.assert_layers((2, (items[:2], items[2:]), ends), range(6))

    def test_machines_of_any_form(self):
        chance = random.Random(3)
        for states in (3, 8, 9, 20, 70):
            for letters in (1, 2, 3, 4):
                for gaps in (0.0, 0.3):
                    self.assert_layers(any_machine(chance, states, letters, gaps, 0.2), (0, 1, 2, 5, 40))

    def test_long_machines(self):
        for machine in (chain(30, 1), chain(30, 4), line(30), line(31)):
            self.assert_layers(machine, range(65))

    def test_only_what_beginnings_come_to_is_looked_at(self):
        layers = word_layers(goals_of(chain(400, 4)), chain(400, 4)[2], 399)
        self.assertEqual([members(layer) for layer in layers], [[state] for state in range(400)])


if __name__ == "__main__":
    unittest.main()
