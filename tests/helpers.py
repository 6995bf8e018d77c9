"""What several tests need: machines to try, all texts of a length, and a limit of time."""

import itertools
import signal
from contextlib import contextmanager


def ring(states, letters=1):
    """A machine of the words whose length is a multiple of the number of states."""
    rows = tuple(((state + 1) % states,) * letters for state in range(states))
    return (letters, rows, (True,) + (False,) * (states - 1))


def chain(states, letters=1):
    """A machine whose first letter leads to the next state and each other one back to state 0; the last state ends."""
    rows = tuple((min(state + 1, states - 1),) + (0,) * (letters - 1) for state in range(states))
    return (letters, rows, (False,) * (states - 1) + (True,))


def every(letters):
    """The machine of all words."""
    return (letters, ((0,) * letters,), (True,))


def any_machine(chance, states, letters, gaps=0.0, ends=0.4):
    """A machine that the source of chance tells, with about so many items that are None and ends that are True."""
    rows = tuple(
        tuple(None if chance.random() < gaps else chance.randrange(states) for letter in range(letters))
        for state in range(states)
    )
    return (letters, rows, tuple(chance.random() < ends for state in range(states)))


def reordered(chance, machine, spare=0):
    """The machine with its states but the first in another order, and with so many rows that nothing leads to."""
    letters, rows, ends = machine
    order = list(range(1, len(rows) + spare))
    chance.shuffle(order)
    place = [0] + order
    told = [(tuple(place[goal] if goal is not None else None for goal in row), end) for row, end in zip(rows, ends)]
    for state in range(spare):
        goals = tuple(chance.choice([None, *range(len(place))]) for letter in range(letters))
        told.append((goals, chance.random() < 0.5))
    found = [None] * len(place)
    for state, part in enumerate(told):
        found[place[state]] = part
    return (letters, tuple(row for row, end in found), tuple(end for row, end in found))


@contextmanager
def at_once(seconds=20):
    """Fail what takes far longer than anything here may, instead of waiting for it."""
    def stop(number, frame):
        raise AssertionError(f"not done within {seconds} seconds")

    before = signal.signal(signal.SIGALRM, stop)
    signal.alarm(seconds)
    try:
        yield
    finally:
        signal.alarm(0)
        signal.signal(signal.SIGALRM, before)


def small_machines():
    """All machines of two letters and two states."""
    for items in itertools.product((None, 0, 1), repeat=4):
        for ends in itertools.product((False, True), repeat=2):
            yield (2, (items[:2], items[2:]), ends)


def texts(letters, length):
    return ["".join(parts) for parts in itertools.product("abcd"[:letters], repeat=length)]


def told_sign(signs, word):
    """What [5] says of the sign of a word, told once more."""
    sign = 1
    for letter in word:
        sign = sign if signs["abcd".index(letter)] == "+" else -sign
    return sign


def told_signed(machine, signs, length):
    """The signed counts of all lengths up to this one, state by state."""
    rows, ends = machine[1:]
    sums = [int(end) for end in ends]
    found = [sums[0]]
    for _ in range(length):
        sums = [
            sum((1 if sign == "+" else -1) * sums[goal] for goal, sign in zip(row, signs) if goal is not None)
            for row in rows
        ]
        found.append(sums[0])
    return found


def told_spreads(machine, signs, weights, length):
    """The spreads of all lengths up to this one, state by state and weight by weight."""
    rows, ends = machine[1:]
    sums = [{0: 1} if end else {} for end in ends]
    found = [tuple(sorted(sums[0].items()))]
    for _ in range(length):
        ahead = []
        for row in rows:
            told = {}
            for goal, sign, weight in zip(row, signs, weights):
                for other, amount in sums[goal].items() if goal is not None else ():
                    told[weight + other] = told.get(weight + other, 0) + (amount if sign == "+" else -amount)
            ahead.append({weight: amount for weight, amount in told.items() if amount})
        sums = ahead
        found.append(tuple(sorted(sums[0].items())))
    return found


def told_words(machine, most):
    """All words of the machine with at most so many letters, in the order of words, read letter by letter."""
    letters, rows, ends = machine
    found, ahead = [], [("", 0)]
    for _ in range(most + 1):
        found.extend(word for word, state in ahead if ends[state])
        ahead = [
            (word + letter, goal) for word, state in ahead for letter, goal in zip("abcd", rows[state])
            if goal is not None
        ]
    return found


def any_rule(chance, letters, pairs, lengths):
    """A rule of at most so many pairs, of words with these lengths."""
    found, taken = [], set()
    for _ in range(8 * pairs):
        length = chance.choice(lengths)
        one, other = ("".join(chance.choice("abcd"[:letters]) for _ in range(length)) for _ in range(2))
        if len(found) < pairs and one != other and not taken & {one, other}:
            found.append((one, other))
            taken |= {one, other}
    return tuple(found)


def is_plain(value):
    """Whether a value consists of Python's own tuples, texts, integers, bools and None only."""
    if type(value) is tuple:
        return all(map(is_plain, value))
    return value is None or type(value) in (str, int, bool)


def two_of(chance, letters):
    """Signs and weights of so many letters."""
    signs = "".join(chance.choice("+-") for letter in range(letters))
    greatest = chance.choice((0, 1, 2, 99))
    return signs, tuple(chance.randint(-greatest, greatest) for letter in range(letters))
