"""Benches: rules that are edited, with undo and redo."""

from pairedaway.bounds import BATCH, MAX_EDITS, MAX_LENGTH
from pairedaway.errors import (
    BadEdit, BadEdits, BadLength, BadRule, BadScheme, BadWord, Busy, Faulty, NoPair, NothingToRedo, NothingToUndo,
    NoVersion, Rejected, TooManyEdits,
)
from pairedaway.lefts import left_of
from pairedaway.rules import change, rule_error
from pairedaway.texts import scheme_error
from pairedaway.verdicts import fault, fewest_drop
from pairedaway.weighing import signed
from pairedaway.words import is_number, is_word

# How many values each edit takes that may be an item of an attempt.
TAKES = {"add": 1, "drop": 1, "change": 2, "lift": 1, "turn": 1}


def is_edit(value):
    """Return whether value is an edit as the items of an attempt are."""
    if not isinstance(value, tuple) or not value or not isinstance(value[0], str):
        return False
    return value[0] in TAKES and len(value) == 1 + TAKES[value[0]]


def is_index(rule, value):
    """Return whether value is the index of a pair of the rule."""
    return is_number(value, 0, len(rule) - 1)


def checked(letters, rule):
    """Return the rule if it is one."""
    error = rule_error(letters, rule)
    if error is not None:
        raise BadRule(error)
    return rule


def edited(letters, rule, edit):
    """Return the rule that an edit makes of this one."""
    name, at = edit[:2]
    if name == "add":
        return checked(letters, (*rule, at))
    if not is_index(rule, at):
        raise NoPair(at)
    ahead, behind = rule[:at], rule[at + 1:]
    if name == "change":
        return checked(letters, (*ahead, edit[2], *behind))
    if name == "turn":
        one, other = rule[at]
        return (*ahead, (other, one), *behind)
    if name == "lift" and ahead:
        return (*ahead[:-1], rule[at], ahead[-1], *behind)
    return rule if name == "lift" else (*ahead, *behind)


class Bench:
    """A kind with signs, which stay, and a rule, which is edited."""

    MOST_EDITS = 60

    def __init__(self, kind, signs, rule=()):
        error = scheme_error((kind, signs, rule))
        if error is not None:
            raise BadScheme(error)
        self.kind = kind
        self.signs = signs
        self.rule = rule
        # The edits that stand, and the rules ahead of the first one and behind each.
        self.done = ()
        self.rules = (rule,)
        # What undo has removed, the last one at the end: each edit with the rule behind it.
        self.gone = ()
        self.busy = False

    def __len__(self):
        return len(self.done)

    def __str__(self):
        return f"{len(self.kind[1])} states, {len(self.rule)} pairs, {len(self.done)} edits"

    def __eq__(self, other):
        if not isinstance(other, Bench) or isinstance(self, RightBench) != isinstance(other, RightBench):
            return False
        return self.kind == other.kind and self.signs == other.signs and self.rule == other.rule

    def __iter__(self):
        raise TypeError("a bench has pairs by their indexes only")

    def __getitem__(self, at):
        if not is_index(self.rule, at):
            raise NoPair(at)
        return self.rule[at]

    def __setitem__(self, at, worth):
        self.change(at, worth)

    def __iadd__(self, other):
        self.add(other)
        return self

    def __isub__(self, other):
        self.drop(other)
        return self

    def approve(self, rule):
        """Raise an error if this rule may not stand."""

    def ready(self):
        """Raise an error if no edit may be done now."""
        if self.busy:
            raise Busy()
        if len(self.done) >= MAX_EDITS:
            raise TooManyEdits()

    def stand(self, edit, rule):
        """Let an edit stand, with the rule behind it, and return the new version."""
        self.approve(rule)
        self.rule = rule
        self.done = (*self.done, edit)
        self.rules = (*self.rules, rule)
        self.gone = ()
        return len(self.done)

    def edit(self, edit):
        """Do an edit and return the new version."""
        self.ready()
        return self.stand(edit, edited(self.kind[0], self.rule, edit))

    def add(self, pair):
        """Put a pair at the end of the rule."""
        return self.edit(("add", pair))

    def drop(self, index):
        """Remove the pair at this index."""
        return self.edit(("drop", index))

    def change(self, index, pair):
        """Put a pair in the place of the one at this index."""
        return self.edit(("change", index, pair))

    def lift(self, index):
        """Exchange the pair at this index with the one ahead of it, if there is one."""
        return self.edit(("lift", index))

    def turn(self, index):
        """Exchange the two words of the pair at this index."""
        return self.edit(("turn", index))

    def drop_fewest(self):
        """Remove the fewest pairs without which the rule is right."""
        self.ready()
        dropped = fewest_drop(self.kind, self.signs, self.rule)
        kept = [pair for index, pair in enumerate(self.rule) if index not in dropped]
        return self.stand(("drop_fewest",), tuple(kept))

    def undo(self):
        """Remove the last edit that stands, and return the new version."""
        if self.busy:
            raise Busy()
        if not self.done:
            raise NothingToUndo()
        self.gone = (*self.gone, (self.done[-1], self.rule))
        self.done = self.done[:-1]
        self.rules = self.rules[:-1]
        self.rule = self.rules[-1]
        return len(self.done)

    def redo(self):
        """Put back the edit that was removed last, and return the new version."""
        if self.busy:
            raise Busy()
        if not self.gone:
            raise NothingToRedo()
        edit, rule = self.gone[-1]
        self.gone = self.gone[:-1]
        self.done = (*self.done, edit)
        self.rules = (*self.rules, rule)
        self.rule = rule
        return len(self.done)

    def attempt(self, edits, *, watch=None):
        """Do several edits as one, up to where watch ends them, and return how many were done."""
        if self.busy:
            raise Busy()
        if not isinstance(edits, (list, tuple)) or len(edits) > BATCH:
            raise BadEdits()
        items = tuple(edits)
        for index, item in enumerate(items):
            if not is_edit(item):
                raise BadEdit(index)
        if not items:
            return 0
        self.ready()
        rule, done, rules = self.rule, self.done, self.rules
        many = None
        self.busy = True
        try:
            many = self.work_off(items, watch)
        finally:
            self.busy = False
            if many is None:
                self.rule, self.done, self.rules = rule, done, rules
        self.gone = ()
        return many

    def work_off(self, items, watch):
        """Do the items of an attempt, and return how many were done."""
        done, rules = self.done, self.rules
        many = 0
        for item in items:
            try:
                rule = edited(self.kind[0], self.rule, item)
            except (NoPair, BadRule):
                raise Rejected(many) from None
            many += 1
            self.rule = rule
            self.done = (*done, ("attempt", items[:many]))
            self.rules = (*rules, rule)
            if watch is not None and watch(self):
                break
        self.approve(self.rule)
        return many

    def verdict(self):
        """Return None if the rule is right, otherwise the first word for which it is not, and the reason."""
        return fault(self.kind, self.signs, self.rule)

    def changed(self, word):
        """Return how the rule changes this word."""
        if not is_word(self.kind[0], word):
            raise BadWord(word)
        return change(self.rule, word)

    def signed(self, length):
        """Return the signed count of the kind for this length."""
        if not is_number(length, 0, MAX_LENGTH):
            raise BadLength(length)
        return signed(self.kind, self.signs, length)

    def left(self, length):
        """Return the signed count of what is left for this length."""
        if not is_number(length, 0, MAX_LENGTH):
            raise BadLength(length)
        return signed(left_of(self.kind, self.rule), self.signs, length)

    def state(self, *, version=None):
        """Return the rule behind so many of the edits that stand, or the present one."""
        if version is None:
            return self.rule
        if not is_number(version, 0, len(self.done)):
            raise NoVersion(version)
        return self.rules[version]

    def edits(self):
        """Return the edits that stand."""
        return self.done


class RightBench(Bench):
    """A bench whose rule is always right."""

    def __init__(self, kind, signs, rule=()):
        Bench.__init__(self, kind, signs, rule)
        self.approve(rule)

    def approve(self, rule):
        """Raise an error if this rule is not right."""
        found = fault(self.kind, self.signs, rule)
        if found is not None:
            raise Faulty(found)
