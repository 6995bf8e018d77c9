"""Signs and weights of words, and the sums of signs of all words of one length."""

from pairedaway.sums import by_layers, signed_sum
from pairedaway.systems import System, add_up, sign_values
from pairedaway.words import LETTERS


def sign_of(signs, word):
    """Return the sign of the word."""
    turns = sum([word.count(letter) for letter, sign in zip(LETTERS, signs) if sign == "-"])
    return -1 if turns & 1 else 1


def weight_of(weights, word):
    """Return the weight of the word."""
    return sum([word.count(letter) * weight for letter, weight in zip(LETTERS, weights)])


def count(machine, length):
    """Return how many words of this length are of the machine."""
    return signed_sum(machine, "+" * machine[0], length)


def signed(machine, signs, length):
    """Return the sum of the signs of the words of the machine with this length."""
    return signed_sum(machine, signs, length)


def common_divisor(one, other):
    """Return the greatest number that divides both, or 0 if both are 0."""
    while other:
        one, other = other, one % other
    return one


def measure(weights):
    """Return the least weight and the greatest step by which the weights differ from it, or 1 if none does."""
    least, step = min(weights), 0
    for weight in weights:
        step = common_divisor(weight - least, step)
    return least, step or 1


def packed_marks(signs, slots, width):
    """Return the marks by which a word adds its sign to the slot of its weight, the slots being so many bits wide."""
    return [(sign, slot * width) for sign, slot in zip(sign_values(signs), slots)]


def packed_sum(machine, marks, length):
    """Return the sum over the words of this length of what the marks of the letters make of each."""
    letters, rows = machine[:2]
    goals = [[len(rows) if goal is None else goal for goal in row] for row in rows]

    def columns(states):
        return [[goals[state][at] for state in states] for at in range(letters)]

    return by_layers(machine, length, columns, lambda told, sums: add_up(told, marks, sums))


def unpacked(packed, slots, digits):
    """Return the list of the numbers in so many slots, the least slot first, each of so many digits of 16."""
    # With half a slot added to each, none is less than 0, and each has its digits for itself.
    half = "8" + "0" * (digits - 1)
    text = f"{packed + int(half * slots, 16):x}".zfill(slots * digits)
    parts = [text[at:at + digits] for at in range(0, len(text), digits)]
    nothing = int(half, 16)
    return [int(part, 16) - nothing for part in parts[::-1]]


def spread(machine, signs, weights, length):
    """Return the ascending tuple of all (weight, sum) with a sum of signs that is not 0."""
    words = count(machine, length)
    if words == 0:
        return ()
    least, step = measure(weights)
    slots = [(weight - least) // step for weight in weights]
    # A sum and its sign must fit into a slot.
    digits = words.bit_length() // 4 + 1
    packed = packed_sum(machine, packed_marks(signs, slots, 4 * digits), length)
    sums = unpacked(packed, max(slots) * length + 1, digits)
    return tuple([(least * length + step * slot, found) for slot, found in enumerate(sums) if found])


def unlike(one, signs, other, others):
    """Return the least length for which the signed counts differ, or None."""
    system = System([(one, signs, (0,) * one[0]), (other, others, (0,) * other[0])])
    first, second = system.starts
    if first == second:
        return None
    marks = [packed_marks(signs, (0,) * one[0], 0), packed_marks(others, (0,) * other[0], 0)]
    sums = system.ends
    # The difference goes on by a rule over no more lengths than there are classes.
    for length in range(system.size):
        if sums[first] != sums[second]:
            return length
        sums = system.step(sums, marks)
    return None


def shortened(sums):
    """Return the sums without the greatest power of 2 that divides them all."""
    bits = 0
    for amount in sums:
        bits |= amount
        if bits & 1:
            return sums
    spare = (bits & -bits).bit_length() - 1
    return [amount >> spare for amount in sums] if bits else sums


def compared(system, parts, slots, width):
    """Return the first length for which the spreads differ, or cannot be compared in slots of this width.

    Behind it stands whether they differ. The length is that of the system if they never do.
    """
    first, second = system.starts
    marks = [packed_marks(part[1], row, width) for part, row in zip(parts, slots)]
    plain = [[(1, 0)] * part[0][0] for part in parts]
    sums = words = system.ends
    for length in range(system.size):
        if sums[first] != sums[second]:
            return length, True
        # Unlike sums may look alike only where they run over their slots.
        if (words[first] + words[second]).bit_length() > width - 2:
            return length, False
        sums, words = shortened(system.step(sums, marks)), system.step(words, plain)
    return system.size, False


def unlike_spread(one, first, other, second):
    """Return the least length for which the spreads differ, or None."""
    parts = [(one, first[0], first[1]), (other, second[0], second[1])]
    system = System(parts)
    if system.starts[0] == system.starts[1]:
        return None
    least, step = measure(first[1] + second[1])
    slots = [[(weight - least) // step for weight in part[2]] for part in parts]
    width, length, differ = 4, 0, False
    while length < system.size and not differ:
        length, differ = compared(system, parts, slots, width)
        width *= 2
    return length if differ else None
