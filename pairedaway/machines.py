"""Machines put together, and the smallest machine of some words."""

from pairedaway.errors import TooGreat
from pairedaway.mergers import merged, whole
from pairedaway.words import LETTERS


def walked(one, other, wanted):
    """Return the rows and the ends of the pairs of states that words lead to in both machines.

    The end of a pair is True if wanted has the number told by both ends: 2 for the first one and 1 for the second one.
    """
    first, lasts = whole(one)
    second, others = whole(other)
    wide = len(second)
    moved = [[goal * wide for goal in row] for row in first]
    pairs, places, rows = [0], {0: 0}, []
    while len(rows) < len(pairs):
        state, beside = divmod(pairs[len(rows)], wide)
        row = []
        for goal, partner in zip(moved[state], second[beside]):
            goal += partner
            if goal not in places:
                places[goal] = len(pairs)
                pairs.append(goal)
            row.append(places[goal])
        rows.append(row)
    return rows, [2 * lasts[pair // wide] + others[pair % wide] in wanted for pair in pairs]


def together(one, other, wanted):
    """Return the smallest machine of the words with ends in both machines that are as wanted."""
    rows, ends = walked(smallest(one), smallest(other), wanted)
    found = merged(rows, ends)
    if found is None:
        raise TooGreat()
    return found


def smallest(machine):
    """Return the smallest machine of the words of the machine."""
    rows, ends = whole(machine)
    return merged(rows, ends)


def both(one, other):
    """Return the smallest machine of the words of both machines."""
    return together(one, other, (3,))


def either(one, other):
    """Return the smallest machine of the words of at least one of the machines."""
    return together(one, other, (1, 2, 3))


def less(one, other):
    """Return the smallest machine of the words of one that are not of other."""
    return together(one, other, (2,))


def root_of(above, state):
    """Return the state that stands for all that are taken to be like this one."""
    while above[state] != state:
        # Each state passed is set higher up, so that the way stays short.
        above[state] = above[above[state]]
        state = above[state]
    return state


def apart(one, other):
    """Return the first word, in the order of words, that is of just one of the machines, or None."""
    rows, ends = whole(one)
    first = len(rows)
    more, others = whole(other)
    rows += [[goal + first for goal in row] for row in more]
    ends += others
    above = list(range(len(rows)))
    # The first states of both are taken to be alike, and then whatever like ones lead to.
    above[first] = 0
    ahead = [(0, first, "")]
    while ahead:
        behind = []
        for state, beside, word in ahead:
            if ends[state] != ends[beside]:
                return word
            for letter, goal, partner in zip(LETTERS, rows[state], rows[beside]):
                goal_root, partner_root = root_of(above, goal), root_of(above, partner)
                # What is taken to be alike already parts by no word that comes ahead of those found so.
                if goal_root != partner_root:
                    above[partner_root] = goal_root
                    behind.append((goal, partner, word + letter))
        ahead = behind
    return None
