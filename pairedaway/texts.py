"""Schemes, which are a kind with signs and a rule, and their texts."""

from pairedaway.bounds import MAX_LETTERS, MAX_STATES
from pairedaway.errors import BadScheme, BadText
from pairedaway.rules import rule_error
from pairedaway.words import LETTERS, machine_error

DIGITS = "0123456789"
# What a text may have that is one of a scheme in the wide sense.
MOST_DIGITS = 9
MOST_LETTERS = 9


def are_signs(value, letters):
    """Return whether value is signs of so many letters."""
    return isinstance(value, str) and len(value) == letters and all([sign in "+-" for sign in value])


def scheme_error(value):
    """Return None for a scheme, otherwise what is wrong with it first."""
    if not isinstance(value, tuple) or len(value) != 3:
        return ("scheme", None)
    kind, signs, rule = value
    error = machine_error(kind)
    if error is None and len(kind[1]) > MAX_STATES:
        error = "states"
    if error is not None:
        return ("kind", error)
    if not are_signs(signs, kind[0]):
        return ("signs", None)
    error = rule_error(kind[0], rule)
    return None if error is None else ("rule", error)


def state_line(row, end):
    """Return the line of a state of the kind."""
    items = ["." if goal is None else str(goal) for goal in row]
    line = " ".join(["state", *items])
    return f"{line} end" if end else line


def scheme_text(scheme):
    """Return the text of the scheme."""
    (letters, rows, ends), signs, rule = scheme
    lines = [f"letters {LETTERS[:letters]}", f"signs {signs}"]
    lines.extend([state_line(row, end) for row, end in zip(rows, ends)])
    lines.extend([f"pair {one} {other}" for one, other in rule])
    return "\n".join(lines)


def is_decimal(text, most):
    """Return whether the text is a number of at most so many digits, without leading zeros."""
    if not 1 <= len(text) <= most or (text[0] == "0" and text != "0"):
        return False
    return all([digit in DIGITS for digit in text])


def is_short_word(text):
    """Return whether the text is 1 to 9 of the four letters."""
    return 1 <= len(text) <= MOST_LETTERS and all([letter in LETTERS for letter in text])


def read_letters(line):
    """Return the number of letters that the first line tells, or None."""
    for letters in range(1, MAX_LETTERS + 1):
        if line == f"letters {LETTERS[:letters]}":
            return letters
    return None


def read_signs(line):
    """Return the signs that a line tells, or None."""
    parts = line.split(" ")
    if len(parts) != 2 or parts[0] != "signs" or parts[1] == "" or not are_signs(parts[1], len(parts[1])):
        return None
    return parts[1]


def read_state(line):
    """Return the row and the end that the line of a state tells, or None."""
    parts = line.split(" ")
    end = parts[-1] == "end"
    items = parts[1:-1] if end else parts[1:]
    if parts[0] != "state" or not 1 <= len(items) <= MAX_LETTERS:
        return None
    if not all([item == "." or is_decimal(item, MOST_DIGITS) for item in items]):
        return None
    return (tuple([None if item == "." else int(item) for item in items]), end)


def read_pair(line):
    """Return the pair that a line tells, or None."""
    parts = line.split(" ")
    if len(parts) != 3 or parts[0] != "pair" or not is_short_word(parts[1]) or not is_short_word(parts[2]):
        return None
    return (parts[1], parts[2])


def read_lines(lines):
    """Return what the lines tell, a scheme in the wide sense."""
    found = []
    for at, read in enumerate((read_letters, read_signs, read_state)):
        told = read(lines[at]) if at < len(lines) else None
        if told is None:
            raise BadText(at)
        found.append(told)
    letters, signs, state = found
    states, pairs = [state], []
    for at in range(3, len(lines)):
        state = None if pairs else read_state(lines[at])
        pair = read_pair(lines[at])
        if state is not None:
            states.append(state)
        elif pair is not None:
            pairs.append(pair)
        else:
            raise BadText(at)
    kind = (letters, tuple([row for row, end in states]), tuple([end for row, end in states]))
    return (kind, signs, tuple(pairs))


def parse_scheme(value):
    """Return the scheme of which value is the text."""
    if not isinstance(value, str):
        raise BadText(None)
    scheme = read_lines(value.split("\n"))
    error = scheme_error(scheme)
    if error is not None:
        raise BadScheme(error)
    return scheme
