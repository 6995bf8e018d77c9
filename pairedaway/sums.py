"""Sums over all words of one length, worked out from their last letters to their first ones."""

from pairedaway.layers import members, word_layers
from pairedaway.systems import sign_values

# For machines with more states than this it pays to find out which of them matter at which place.
FEW = 100

# For lengths greater than this times the square of the number of states, a few long steps are faster.
SQUARED = 15


def one_more(goals, sums):
    return [sums[one] for (one,) in goals]


def two_more(goals, sums):
    return [sums[one] + sums[two] for one, two in goals]


def one_more_one_less(goals, sums):
    return [sums[one] - sums[two] for one, two in goals]


def three_more(goals, sums):
    return [sums[one] + sums[two] + sums[three] for one, two, three in goals]


def two_more_one_less(goals, sums):
    return [sums[one] + sums[two] - sums[three] for one, two, three in goals]


def four_more(goals, sums):
    return [sums[one] + sums[two] + sums[three] + sums[four] for one, two, three, four in goals]


def three_more_one_less(goals, sums):
    return [sums[one] + sums[two] + sums[three] - sums[four] for one, two, three, four in goals]


def two_more_two_less(goals, sums):
    return [sums[one] + sums[two] - sums[three] - sums[four] for one, two, three, four in goals]


# For the numbers of letters of the sign that more have and of the other one: what makes the sums for one letter more.
STEPS = {
    (1, 0): one_more, (2, 0): two_more, (1, 1): one_more_one_less, (3, 0): three_more, (2, 1): two_more_one_less,
    (4, 0): four_more, (3, 1): three_more_one_less, (2, 2): two_more_two_less,
}


def by_layers(machine, length, prepared, step):
    """Return the sum over the words of this length, by the sums of those states only that matter at each place.

    prepared makes of a list of states what step takes, ahead of all sums (behind which stands 0), to return theirs.
    """
    letters, rows, ends = machine
    layers = word_layers([[goal for goal in row if goal is not None] for row in rows], ends, length)
    if layers[0] == 0:
        return 0
    known = {}
    sums = [int(end) for end in ends] + [0]
    for layer in layers[:length][::-1]:
        if layer not in known:
            states = members(layer)
            known[layer] = (states, prepared(states))
        states, told = known[layer]
        found = step(told, sums)
        sums = [0] * (len(rows) + 1)
        for state, amount in zip(states, found):
            sums[state] = amount
    return sums[0]


def product_sum(one, other):
    """Return the sum of the products of the numbers in two lists, each with the one at the same place."""
    return sum([first * second for first, second in zip(one, other)])


def by_squares(machine, values, length):
    """Return the sum of the signs of the words of this length, by what words of 1, 2, 4, 8 .. letters lead to.

    values has the sign of each letter as a number.
    """
    ways = []
    for row in machine[1]:
        found = [0] * len(machine[1])
        for goal, value in zip(row, values):
            if goal is not None:
                found[goal] += value
        ways.append(found)
    sums = [int(end) for end in machine[2]]
    while length:
        if length & 1:
            sums = [product_sum(row, sums) for row in ways]
        length >>= 1
        if length:
            columns = [[row[at] for row in ways] for at in range(len(ways))]
            ways = [[product_sum(row, column) for column in columns] for row in ways]
    return sums[0]


def by_steps(machine, values, length):
    """Return the same, letter by letter."""
    letters, rows, ends = machine
    nowhere = len(rows)
    most = -1 if 2 * values.count(-1) > letters else 1
    order = [at for at in range(letters) if values[at] == most]
    step = STEPS[(len(order), letters - len(order))]
    order += [at for at in range(letters) if values[at] != most]
    goals = [tuple([nowhere if row[at] is None else row[at] for at in order]) for row in rows]
    if nowhere > FEW:
        found = by_layers(machine, length, lambda states: [goals[state] for state in states], step)
    else:
        goals.append((nowhere,) * letters)
        sums = [int(end) for end in ends] + [0]
        for place in range(length):
            sums = step(goals, sums)
        found = sums[0]
    # With all signs exchanged, each word has as many signs exchanged as it has letters.
    return -found if most < 0 and length & 1 else found


def signed_sum(machine, signs, length):
    """Return the sum of the signs of the words of the machine with this length."""
    values = sign_values(signs)
    many = len(machine[1])
    # Squares cost as much as the cube of the number of states, but few of them lead to a great length.
    if SQUARED * many * many < length:
        return by_squares(machine, values, length)
    return by_steps(machine, values, length)
