"""Words, and the machines that tell of which words a kind consists."""

from pairedaway.bounds import MAX_LENGTH, MAX_LETTERS, MAX_ROWS
from pairedaway.layers import word_layers

LETTERS = "abcd"


def is_number(value, low, high):
    """Return whether value is an integer from low to high; True and False are none."""
    return isinstance(value, int) and not isinstance(value, bool) and low <= value <= high


def is_word(letters, value):
    """Return whether value is a word of so many letters that is not too long."""
    if not isinstance(value, str) or len(value) > MAX_LENGTH:
        return False
    return all([letter in LETTERS[:letters] for letter in value])


def is_row(value, letters, states):
    """Return whether value is a row of a machine with so many letters and states."""
    if not isinstance(value, tuple) or len(value) != letters:
        return False
    return all([item is None or is_number(item, 0, states - 1) for item in value])


def are_rows(value, letters):
    """Return whether value is the rows of a machine with so many letters."""
    if not isinstance(value, tuple) or not 1 <= len(value) <= MAX_ROWS:
        return False
    return all([is_row(row, letters, len(value)) for row in value])


def are_ends(value, states):
    """Return whether value is the ends of a machine with so many states."""
    if not isinstance(value, tuple) or len(value) != states:
        return False
    return all([isinstance(end, bool) for end in value])


def machine_error(value):
    """Return None for a machine, otherwise the name of its first part that is wrong."""
    if not isinstance(value, tuple) or len(value) != 3:
        return "machine"
    letters, rows, ends = value
    if not is_number(letters, 1, MAX_LETTERS):
        return "letters"
    if not are_rows(rows, letters):
        return "rows"
    if not are_ends(ends, len(rows)):
        return "ends"
    return None


def is_of(machine, word):
    """Return whether the word is of the machine."""
    rows, ends = machine[1:]
    state = 0
    for letter in word:
        state = rows[state][LETTERS.index(letter)]
        if state is None:
            return False
    return ends[state]


def each_word(machine, length):
    """Yield the words of the machine with this length, in Python's order of texts."""
    steps = [[(letter, goal) for letter, goal in zip(LETTERS, row) if goal is not None] for row in machine[1]]
    layers = word_layers([[goal for letter, goal in row] for row in steps], machine[2], length)
    # Only beginnings that some word of this length has are ever walked, so that no word is long in coming.
    ahead = [(0, "")] if layers[0] else []
    while ahead:
        state, word = ahead.pop()
        if len(word) == length:
            yield word
            continue
        wanted = layers[len(word) + 1]
        # The last one put here is taken first.
        for letter, goal in steps[state][::-1]:
            if wanted >> goal & 1:
                ahead.append((goal, word + letter))
