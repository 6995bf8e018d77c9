"""The workings of the decisions: beginnings, turns, partings and mergers."""

import random
import unittest

from pairedaway.beginnings import LeftWalk, begun_rows
from pairedaway.mergers import NOWHERE, classes_of, lengths_to, merged, whole
from pairedaway.partings import Partings
from pairedaway.rules import change
from pairedaway.turns import tails_of, texts_up_to, turns_behind
from tests.helpers import any_machine, any_rule, every, told_words
from tests.told_verdicts import told_state


class BeginningsTest(unittest.TestCase):
    def test_rows(self):
        self.assertEqual(begun_rows(2, ()), {"": ["", ""]})
        self.assertEqual(begun_rows(3, (("ab", "ba"),)), {
            "": ["a", "b", ""], "a": ["a", None, ""], "b": [None, "b", ""],
        })
        self.assertEqual(begun_rows(2, (("aab", "aba"), ("b", "a")))[""], [None, None])

    def test_walk(self):
        walk = LeftWalk(every(2), (("ab", "ba"),))
        self.assertEqual(walk.spots, [(0, ""), (0, "a"), (0, "b")])
        self.assertEqual(walk.firsts, ["", "a", "b"])
        self.assertEqual(walk.rows, [(1, 2), (1, None), (None, 2)])

    def test_first_words(self):
        """Each spot has the first word without a change that leads there, and all such words lead to some spot."""
        chance = random.Random(1)
        for _ in range(60):
            letters = chance.randint(1, 3)
            kind = any_machine(chance, chance.randint(1, 4), letters, 0.2)
            rule = any_rule(chance, letters, 4, (1, 2, 3, 3))
            walk = LeftWalk(kind, rule)
            found = {}
            for word in told_words((letters, kind[1], (True,) * len(kind[1])), 6):
                if change(rule, word) is None:
                    spot = 0
                    for letter in word:
                        spot = walk.rows[spot]["abcd".index(letter)]
                    self.assertEqual(walk.spots[spot][0], told_state(kind, word))
                    found.setdefault(spot, word)
            for spot, word in found.items():
                self.assertEqual(walk.firsts[spot], word)


class TurnsTest(unittest.TestCase):
    def test_tails(self):
        self.assertEqual(texts_up_to(2, 2), ["", "a", "b", "aa", "ab", "ba", "bb"])
        self.assertEqual(tails_of(2, ()), {})
        self.assertEqual(tails_of(2, (("a", "b"), ("ab", "ba"))), {
            1: [("", False), ("a", True), ("b", True)], 2: [("", True)],
        })

    def test_turns(self):
        rule = (("ab", "bb"),)
        self.assertEqual(turns_behind(rule, tails_of(2, rule), ""), [
            (0, "ab", "bb", True, True), (0, "bb", "ab", True, True),
        ])
        # "aab" becomes "abb", and this "bbb"; "abb" has a change ahead.
        self.assertEqual(turns_behind(rule, tails_of(2, rule), "a"), [(0, "ab", "bb", True, False)])


class PartingsTest(unittest.TestCase):
    def test_first_words(self):
        chance = random.Random(2)
        for _ in range(60):
            letters = chance.randint(1, 3)
            machine = any_machine(chance, chance.randint(1, 5), letters, 0.3)
            partings = Partings(machine)
            rows, ends = whole(machine)
            most = {1: 30, 2: 8, 3: 5}[letters]
            words = told_words(every(letters), most)
            for one in range(partings.wide):
                for other in range(partings.wide):
                    pair = one * partings.wide + other
                    told = next((
                        word for word in words
                        if ends[partings.goals(word)[one]] and not ends[partings.goals(word)[other]]
                    ), None)
                    if told is not None:
                        self.assertEqual(partings.lengths[pair], len(told))
                        self.assertEqual(partings.first_word(pair), told)
                    elif partings.lengths[pair] is not None:
                        self.assertGreater(partings.lengths[pair], most)
                    self.assertEqual(partings.now[pair], 0 if told == "" else None)


class MergersTest(unittest.TestCase):
    def test_whole(self):
        machine = (2, ((0, 1), (0, None)), (True, False))
        self.assertEqual(whole(machine), ([[0, 1], [0, 2], [2, 2]], [True, False, False]))

    def test_lengths(self):
        sources = [[], [0], [1, 2], [3]]
        self.assertEqual(lengths_to([2], sources, 9), [2, 1, 0, None])
        self.assertEqual(lengths_to([2], sources, 1), [None, 1, 0, None])
        self.assertEqual(lengths_to([], [[0]], 1), [None])

    def test_classes(self):
        # The first two are alike, the last one leads to no end.
        classes, many = classes_of([[1], [0], [2]], [True, True, False])
        self.assertEqual((classes[0], classes[2], many), (classes[1], NOWHERE, 1))
        self.assertEqual(classes_of([[0]], [False]), ([NOWHERE], 0))

    def test_classes_of_any_rows(self):
        """Rows of many shapes, also such that most states lead to few: against parting until nothing parts."""
        chance = random.Random(3)
        for _ in range(400):
            many, letters = chance.randint(1, 40), chance.randint(1, 2)
            goals = chance.choice((
                lambda state: chance.randrange(many), lambda state: chance.randrange(state // 3 + 1),
                lambda state: chance.choice((max(0, state - 1), state // 8, state // 5)),
            ))
            rows = [[goals(state) for letter in range(letters)] for state in range(many)]
            ends = [chance.random() < chance.choice((0.05, 0.5)) for state in range(many)]
            classes, found = classes_of(rows, ends)
            kinds, before = {state: ends[state] for state in range(many)}, 0
            while len(set(kinds.values())) > before:
                before = len(set(kinds.values()))
                kinds = {state: (kinds[state], *(kinds[goal] for goal in rows[state])) for state in range(many)}
                numbers = {kind: number for number, kind in enumerate(dict.fromkeys(kinds.values()))}
                kinds = {state: numbers[kind] for state, kind in kinds.items()}
            living = {state for state in range(many) if ends[state]}
            while more := {state for state in range(many) if living & set(rows[state])} - living:
                living |= more
            self.assertEqual([state for state in range(many) if classes[state] != NOWHERE], sorted(living))
            pairs = {(classes[state], kinds[state]) for state in living}
            self.assertEqual(len(pairs), len({kinds[state] for state in living}))
            self.assertEqual(len(pairs), len({classes[state] for state in living}))
            self.assertEqual(len(pairs), found)

    def test_too_great(self):
        rows = [[min(state + 1, 400)] for state in range(401)]
        self.assertIsNone(merged(rows, [False] * 400 + [True]))
        self.assertEqual(len(merged(rows[:-2] + [[399], [400]], [False] * 399 + [True, False])[1]), 400)


if __name__ == "__main__":
    unittest.main()
