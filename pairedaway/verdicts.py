"""Decisions for the words of all lengths: whether a rule is right, keeps weights, or leaves a word with the sign -1."""

from pairedaway.beginnings import LeftWalk
from pairedaway.partings import Partings
from pairedaway.rules import change
from pairedaway.turns import tails_of, turns_behind
from pairedaway.weighing import sign_of, weight_of
from pairedaway.words import LETTERS, is_of


def wrong_turns(partings, turns, wrong):
    """Return of the changes behind one text all that can be wrong.

    wrong has for each pair whether its changes are wrong in themselves, or None if they never are. Each item is (what
    stands at the place, the states it leads to, the states to be parted from these so that the change is wrong, the
    lengths of the words that part them).
    """
    found = []
    for index, near, behind, on, back in turns:
        if wrong[index] is None:
            continue
        others = partings.goals(behind)
        if wrong[index] or not back:
            others = [partings.nowhere] * partings.wide
        found.append((near, partings.goals(near), others, partings.lengths if on else partings.now))
    return found


def first_wrong(partings, kind, rule, wrong):
    """Return the first word of the kind that has a wrong change, or None."""
    walk = LeftWalk(kind, rule)
    tails = tails_of(kind[0], rule)
    known, best = {}, None
    for (state, text), first in zip(walk.spots, walk.firsts):
        # At least one letter stands behind the place of a change.
        if best is not None and len(first) >= len(best):
            break
        if text not in known:
            known[text] = wrong_turns(partings, turns_behind(rule, tails, text), wrong)
        for near, goals, others, lengths in known[text]:
            pair = goals[state] * partings.wide + others[state]
            if lengths[pair] is None:
                continue
            long = len(first) + len(near) + lengths[pair]
            if best is None or long <= len(best):
                word = first + near + partings.first_word(pair)
                best = word if best is None or long < len(best) else min(word, best)
    return best


def turns_no_sign(signs, rule):
    """Return for each pair whether its words have the same sign."""
    return [sign_of(signs, one) == sign_of(signs, other) for one, other in rule]


def reason_of(kind, signs, rule, word):
    """Return the first reason for which the change of a word of the kind is wrong, or None."""
    told = change(rule, word)
    if told is None:
        return None
    found = told[2]
    # The partner that stands in it now has a change, if nothing else has.
    if change(rule, found)[2] != word:
        return "back"
    if not is_of(kind, found):
        return "kind"
    return "sign" if sign_of(signs, found) == sign_of(signs, word) else None


def fault(kind, signs, rule):
    """Return None if the rule is right, otherwise the first word for which it is not, and the reason."""
    word = first_wrong(Partings(kind), kind, rule, turns_no_sign(signs, rule))
    return None if word is None else (word, reason_of(kind, signs, rule, word))


def unkept(kind, weights, rule):
    """Return the first word of the kind that gets another weight by its change, or None."""
    wrong = [True if weight_of(weights, one) != weight_of(weights, other) else None for one, other in rule]
    return first_wrong(Partings(kind), kind, rule, wrong)


def minus_left(kind, signs, rule):
    """Return the first word of the kind that has no change and has the sign -1, or None."""
    walk = LeftWalk(kind, rule)
    ends = [kind[2][state] for state, text in walk.spots]
    reached = {(0, False): True}
    ahead = [(0, False, "")]
    while ahead:
        behind = []
        for at, minus, word in ahead:
            if minus and ends[at]:
                return word
            for letter, sign, goal in zip(LETTERS, signs, walk.rows[at]):
                spot = (goal, minus != (sign == "-"))
                if goal is not None and spot not in reached:
                    reached[spot] = True
                    behind.append((*spot, word + letter))
        ahead = behind
    return None


def choices(many):
    """Return all ascending tuples of numbers less than this one, shorter ones first, those of one length in order."""
    found = [()]
    for number in range(many):
        found = found + [(*chosen, number) for chosen in found]
    return sorted(found, key=lambda chosen: (len(chosen), chosen))


def fails_for_one(kind, signs, rule, words):
    """Return whether the change of one of these words of the kind is wrong."""
    for word in words:
        if reason_of(kind, signs, rule, word) is not None:
            return True
    return False


def fewest_drop(kind, signs, rule):
    """Return the ascending tuple of the indexes of the fewest pairs without which the rule is right."""
    partings = Partings(kind)
    words = []
    # The last one to be tried leaves no pair, which is always right.
    for dropped in choices(len(rule)):
        kept = tuple([pair for index, pair in enumerate(rule) if index not in dropped])
        # What was wrong without other pairs mostly is so again, and that is told sooner than what is wrong first.
        if not fails_for_one(kind, signs, kept, words):
            word = first_wrong(partings, kind, kept, turns_no_sign(signs, kept))
            if word is None:
                return dropped
            words.append(word)
