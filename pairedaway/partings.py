"""The shortest words that lead one state of a machine to an end, and another one to none."""

from pairedaway.layers import turned
from pairedaway.mergers import lengths_to, whole
from pairedaway.words import LETTERS


class Partings:
    """Tells of a machine by which words its states part.

    Attributes: rows and ends of the machine with a last state, nowhere, to which each missing item leads; wide, how
    many states there are with it; lengths, for state * wide + another one the length of the shortest word that leads
    just the first of both to an end, or None; and now, the same where the word may be only the empty one.
    """

    def __init__(self, machine):
        self.rows, self.ends = whole(machine)
        self.wide = len(self.rows)
        self.nowhere = self.wide - 1
        self.pairs = [[one * self.wide + other for one, other in zip(row, beside)]
                      for row in self.rows for beside in self.rows]
        parted = [one and not other for one in self.ends for other in self.ends]
        self.now = [0 if found else None for found in parted]
        apart = [pair for pair, found in enumerate(parted) if found]
        self.lengths = lengths_to(apart, turned(self.pairs), len(parted))
        self.known = {"": list(range(self.wide))}

    def goals(self, text):
        """Return for each state the one that the text leads to from it."""
        if text not in self.known:
            goals = self.known[""]
            for letter in text:
                at = LETTERS.index(letter)
                goals = [self.rows[goal][at] for goal in goals]
            self.known[text] = goals
        return self.known[text]

    def first_word(self, pair):
        """Return the first word, in the order of words, that leads just the first state of the pair to an end."""
        word = ""
        while self.lengths[pair]:
            for letter, goal in zip(LETTERS, self.pairs[pair]):
                if self.lengths[goal] is not None and self.lengths[goal] < self.lengths[pair]:
                    break
            word += letter
            pair = goal
        return word
