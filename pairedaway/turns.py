"""The changes of a rule near the place where they happen, which is all that they depend on."""

from pairedaway.rules import change
from pairedaway.words import LETTERS


def texts_up_to(letters, most):
    """Return the list of all texts of at most so many letters."""
    found, last = [""], [""]
    for length in range(most):
        last = [text + letter for text in last for letter in LETTERS[:letters]]
        found.extend(last)
    return found


def tails_of(letters, rule):
    """Return for each length of pieces all that may follow a piece of it, as far as changes there depend on it.

    Each is (text, whether the word may go on behind it).
    """
    wide = [len(one) for one, other in rule]
    return {many: [(text, len(text) == max(wide) - many) for text in texts_up_to(letters, max(wide) - many)]
            for many in wide}


def turns_behind(rule, tails, text):
    """Return the list of the changes that happen where this text ends, no piece having begun in front of that place.

    The text is all of the word up to there with which a piece may have begun. Each change is (index of the pair, what
    stands at the place, what comes there, whether the word may go on, whether by a second change it comes again).
    """
    found = []
    for index, (one, other) in enumerate(rule):
        for piece, partner in ((one, other), (other, one)):
            for tail, on in tails[len(piece)]:
                near = text + piece + tail
                place, which, behind = change(rule, near)
                if (place, which) == (len(text), index):
                    found.append((index, piece + tail, partner + tail, on, change(rule, behind)[2] == near))
    return found
