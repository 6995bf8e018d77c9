"""Rules: pairs of short words of one length, each of which stands for its partner."""

from pairedaway.bounds import MAX_PAIRS, MAX_WINDOW
from pairedaway.words import LETTERS


def is_piece(letters, value):
    """Return whether value can be a word of a pair."""
    if not isinstance(value, str) or not 1 <= len(value) <= MAX_WINDOW:
        return False
    return all([letter in LETTERS[:letters] for letter in value])


def is_pair(letters, value):
    """Return whether value is a pair of these letters."""
    if not isinstance(value, tuple) or len(value) != 2:
        return False
    one, other = value
    if not is_piece(letters, one) or not is_piece(letters, other):
        return False
    return len(one) == len(other) and one != other


def rule_error(letters, value):
    """Return None for a rule of so many letters, otherwise the place and the name of what is wrong first."""
    if not isinstance(value, tuple):
        return (None, "rule")
    taken = []
    for index, item in enumerate(value):
        if not is_pair(letters, item) or item[0] in taken or item[1] in taken:
            return (index, "pair")
        taken.extend(item)
    if len(value) > MAX_PAIRS:
        return (None, "many")
    return None


def change(rule, word):
    """Return the place, the index of the pair and the word that comes, or None if the word has no change."""
    found = []
    for index, (one, other) in enumerate(rule):
        for piece, partner in ((one, other), (other, one)):
            place = word.find(piece)
            if place >= 0:
                found.append((place, index, partner))
    if not found:
        return None
    # The two words of a pair never stand at one place, so the partner does not decide.
    place, index, partner = min(found)
    return (place, index, word[:place] + partner + word[place + len(partner):])
