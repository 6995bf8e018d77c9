"""States from which the same words go on to an end, taken as one, so that the smallest machine comes."""

from pairedaway.bounds import MAX_ROWS
from pairedaway.layers import turned

NOWHERE = -1


def whole(machine):
    """Return the rows and the ends of the machine with a last state more, to which each missing item leads."""
    letters, rows, ends = machine
    nowhere = len(rows)
    found = [[nowhere if goal is None else goal for goal in row] for row in rows]
    return found + [[nowhere] * letters], list(ends) + [False]


def goals_of(row, classes):
    """Return the classes that a state leads to."""
    return tuple([classes[goal] for goal in row])


def leavers(held, touched, rows, classes):
    """Return the states that must leave a class, in lists by the classes that they lead to.

    The states of the class that are not touched all lead to the same classes. Those that lead to what most of them
    lead to stay, so that no state leaves a class often.
    """
    groups = {}
    for state in touched:
        groups.setdefault(goals_of(rows[state], classes), []).append(state)
    others = len(held) - len(touched)
    if others:
        among = {state: True for state in touched}
        for state in held:
            if state not in among:
                break
        own = goals_of(rows[state], classes)
        groups.setdefault(own, [])
        if len(groups[own]) + others >= max([len(group) for group in groups.values()]):
            del groups[own]
            return list(groups.values())
        groups[own].extend([state for state in held if state not in among])
    return sorted(list(groups.values()), key=len)[:-1]


def splits_of(touched, held, rows, classes):
    """Return for the classes of the touched states which states must leave each, in lists, until there are too many."""
    found = {}
    for state in touched:
        found.setdefault(classes[state], []).append(state)
    splits, many = [], len(held)
    for kind, states in found.items():
        groups = leavers(held[kind], states, rows, classes)
        splits.append((kind, groups))
        many += len(groups)
        if many > MAX_ROWS:
            break
    return splits


def part(splits, held, classes):
    """Let states leave their classes, those of each list for a new one, and return all that are moved."""
    moved = []
    for kind, groups in splits:
        for group in groups:
            for state in group:
                del held[kind][state]
                classes[state] = len(held)
            held.append({state: True for state in group})
            moved.extend(group)
    return moved


def lengths_to(wanted, sources, most):
    """Return for each state the length of the shortest word to one of those wanted, or None if it is more than most.

    sources has for each state the list of the states that lead to it.
    """
    lengths = [None] * len(sources)
    ahead, length = wanted, 0
    while ahead and length <= most:
        behind = []
        for state in ahead:
            if lengths[state] is None:
                lengths[state] = length
                behind.extend(sources[state])
        ahead = behind
        length += 1
    return lengths


def classes_of(rows, ends):
    """Return for each state the number of its class, NOWHERE if it leads to no end, and how many classes there are.

    If there are more than MAX_ROWS, only some more than that are told apart.
    """
    sources = turned(rows)
    # How far the next end is parts the states to begin with.
    lengths = lengths_to([state for state, end in enumerate(ends) if end], sources, MAX_ROWS)
    classes = [NOWHERE if length is None else length for length in lengths]
    touched = [state for state, kind in enumerate(classes) if kind != NOWHERE]
    held = [{} for kind in range(max(classes) + 1)]
    for state in touched:
        held[classes[state]][state] = True
    while touched and len(held) <= MAX_ROWS:
        # All that is to be parted is told before a class is changed, so that the states of one can be compared.
        moved = part(splits_of(touched, held, rows, classes), held, classes)
        if len(held) > MAX_ROWS:
            break
        touched = list({source: True for state in moved for source in sources[state]})
    return classes, len(held)


def numbered(rows, ends, classes):
    """Return the machine of the classes, in the order of the first words by which they are come to."""
    places = {classes[0]: 0}
    found, told, ahead = [], [], [0]
    while ahead:
        behind = []
        for state in ahead:
            told.append(ends[state])
            row = []
            for goal in rows[state]:
                kind = classes[goal]
                if kind != NOWHERE and kind not in places:
                    places[kind] = len(places)
                    behind.append(goal)
                row.append(places.get(kind))
            found.append(tuple(row))
        ahead = behind
    return (len(rows[0]), tuple(found), tuple(told))


def merged(rows, ends):
    """Return the smallest machine of the words that lead from the first state to an end, or None if it is too great.

    If there are more states than a machine may have, some word leads to each of them.
    """
    classes, many = classes_of(rows, ends)
    if many > MAX_ROWS:
        return None
    if classes[0] == NOWHERE:
        return (len(rows[0]), ((None,) * len(rows[0]),), (False,))
    return numbered(rows, ends, classes)
