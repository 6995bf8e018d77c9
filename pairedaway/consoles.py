"""A console that works on a bench by lines of text."""

from pairedaway.errors import (
    BadLength, BadRule, BadWord, Busy, Faulty, NoPair, NothingToRedo, NothingToUndo, TooManyEdits,
)
from pairedaway.texts import is_decimal, is_short_word, scheme_text

MOST_DIGITS = 40
UNKNOWN = "unknown command"

# What follows each command: a number for each N, a word for each W.
FORMS = {
    "add": "WW", "drop": "N", "change": "NWW", "lift": "N", "turn": "N", "fewest": "", "undo": "", "redo": "",
    "text": "", "verdict": "", "on": "W", "signed": "N", "left": "N",
}


def is_integer(text):
    """Return whether the text is an integer as a console takes it."""
    if text.startswith("-"):
        return text != "-0" and is_decimal(text[1:], MOST_DIGITS)
    return is_decimal(text, MOST_DIGITS)


def values_of(form, parts):
    """Return the list of the numbers and words in these parts of a line, or None if they are not of this form."""
    if len(parts) != len(form):
        return None
    values = []
    for sort, part in zip(form, parts):
        if sort == "N" and is_integer(part):
            values.append(int(part))
        elif sort == "W" and is_short_word(part):
            values.append(part)
        else:
            return None
    return values


def add_answer(bench, values):
    return f"ok {bench.add((values[0], values[1]))}"


def drop_answer(bench, values):
    return f"ok {bench.drop(values[0])}"


def change_answer(bench, values):
    return f"ok {bench.change(values[0], (values[1], values[2]))}"


def lift_answer(bench, values):
    return f"ok {bench.lift(values[0])}"


def turn_answer(bench, values):
    return f"ok {bench.turn(values[0])}"


def fewest_answer(bench, values):
    return f"ok {bench.drop_fewest()}"


def undo_answer(bench, values):
    return f"ok {bench.undo()}"


def redo_answer(bench, values):
    return f"ok {bench.redo()}"


def text_answer(bench, values):
    return scheme_text((bench.kind, bench.signs, bench.rule)).replace("\n", " | ")


def verdict_answer(bench, values):
    found = bench.verdict()
    return "right" if found is None else f"{found[1]} {found[0]}"


def on_answer(bench, values):
    found = bench.changed(values[0])
    return "left" if found is None else found[2]


def signed_answer(bench, values):
    return str(bench.signed(values[0]))


def left_answer(bench, values):
    return str(bench.left(values[0]))


ANSWERS = {
    "add": add_answer, "drop": drop_answer, "change": change_answer, "lift": lift_answer, "turn": turn_answer,
    "fewest": fewest_answer, "undo": undo_answer, "redo": redo_answer, "text": text_answer, "verdict": verdict_answer,
    "on": on_answer, "signed": signed_answer, "left": left_answer,
}


def answered(bench, name, values):
    """Return the answer to a command, or the name of the error that the bench raises."""
    action = ANSWERS[name]
    try:
        return action(bench, values)
    except Busy:
        return "error Busy"
    except TooManyEdits:
        return "error TooManyEdits"
    except NoPair:
        return "error NoPair"
    except BadRule:
        return "error BadRule"
    except Faulty:
        return "error Faulty"
    except NothingToUndo:
        return "error NothingToUndo"
    except NothingToRedo:
        return "error NothingToRedo"
    except BadWord:
        return "error BadWord"
    except BadLength:
        return "error BadLength"


class Console:
    """Does the commands that are given to it on one bench."""

    def __init__(self, bench):
        self.bench = bench

    def execute(self, line):
        """Return the answer to a line."""
        if not isinstance(line, str):
            return UNKNOWN
        name, *parts = line.split(" ")
        values = values_of(FORMS[name], parts) if name in FORMS else None
        return UNKNOWN if values is None else answered(self.bench, name, values)
