"""What [7] says of all words, told once more: words are tried in their order, but none that goes on as one ahead of it.

How a word goes on depends, as long as no piece stands in it that no letter to come can get ahead of, only on its last
four letters (pieces have at most three) and on the state of the kind ahead of the last two of them; after that, on the
states that the word and the changed word lead to, and on what is wrong with the change already.
"""

from pairedaway.bounds import MAX_WINDOW
from pairedaway.rules import change
from pairedaway.words import is_of
from tests.helpers import told_sign


def told_state(kind, word):
    """The state that a word leads to, or None."""
    state = 0
    for letter in word:
        state = kind[1][state]["abcd".index(letter)] if state is not None else None
    return state


def told_weight(weights, word):
    return sum(weights["abcd".index(letter)] for letter in word)


def told_reason(kind, signs, rule, word):
    """What [7] says of the change of one word of the kind."""
    told = change(rule, word)
    if told is None:
        return None
    back = change(rule, told[2])
    if back is None or back[2] != word:
        return "back"
    if not is_of(kind, told[2]):
        return "kind"
    return None if told_sign(signs, word) == -told_sign(signs, told[2]) else "sign"


def first_of(kind, rule, wanted, seen):
    """The first word of the kind of which wanted is so; seen tells of a word what else it goes on by."""
    ahead, known = [""], set()
    for word in ahead:
        state = told_state(kind, word)
        if state is None:
            continue
        told = change(rule, word)
        if told is not None and told[0] <= len(word) - MAX_WINDOW:
            back = change(rule, told[2])[2] == word
            key = (state, told_state(kind, told[2]), back, seen(word), seen(told[2]))
        else:
            key = (told_state(kind, word[:-2]), word[-4:], seen(word))
        if key not in known:
            known.add(key)
            if kind[2][state] and wanted(word):
                return word
            ahead.extend(word + letter for letter in "abcd"[:kind[0]])
    return None


def told_fault(kind, signs, rule):
    word = first_of(
        kind, rule, lambda word: told_reason(kind, signs, rule, word) is not None, lambda word: told_sign(signs, word)
    )
    return None if word is None else (word, told_reason(kind, signs, rule, word))


def told_unkept(kind, weights, rule):
    """The first word of another weight by its change; words are told apart by the difference, not by the weights."""
    def unkept(word):
        told = change(rule, word)
        return told is not None and told_weight(weights, told[2]) != told_weight(weights, word)

    return first_of(kind, rule, unkept, unkept)


def told_minus_left(kind, signs, rule):
    return first_of(
        kind, rule, lambda word: change(rule, word) is None and told_sign(signs, word) < 0,
        lambda word: told_sign(signs, word),
    )
