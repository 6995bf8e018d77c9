"""Two rules put to and fro, so that a word that one leaves comes to a word that the other leaves."""

from pairedaway.bounds import MAX_STEPS
from pairedaway.errors import NotLeft, NotRight, TooFar
from pairedaway.rules import change
from pairedaway.verdicts import fault, minus_left
from pairedaway.words import is_of, is_word


def is_left(kind, rule, value):
    """Return whether value is a word of the kind, not too long, that has no change."""
    return is_word(kind[0], value) and is_of(kind, value) and change(rule, value) is None


def partner(kind, signs, one, other, word):
    """Return the word that other leaves to which this one, left by one, is led to and fro, and the number of steps."""
    for which, rule in enumerate((one, other)):
        if fault(kind, signs, rule) is not None or minus_left(kind, signs, rule) is not None:
            raise NotRight(which)
    if not is_left(kind, one, word):
        raise NotLeft(word)
    steps = 0
    told = change(other, word)
    while told is not None:
        if steps + 2 > MAX_STEPS:
            raise TooFar()
        # What other changes has the sign -1 then, so that one does not leave it.
        word = change(one, told[2])[2]
        steps += 2
        told = change(other, word)
    return (word, steps)
