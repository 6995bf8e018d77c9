"""States from which the same words go on to an end, taken as one, so that the smallest machine comes."""

from pairedaway.bounds import MAX_ROWS
from pairedaway.layers import turned
from pairedaway.systems import reached_from

NOWHERE = -1


def whole(machine):
    """Return the rows and the ends of the machine with a last state more, to which each missing item leads."""
    letters, rows, ends = machine
    nowhere = len(rows)
    found = [[nowhere if goal is None else goal for goal in row] for row in rows]
    return found + [[nowhere] * letters], list(ends) + [False]


def goals_of(row, classes):
    """Return the classes that a state leads to."""
    return tuple([classes[goal] for goal in row])


def leavers(held, touched, rows, classes):
    """Return the states that must leave a class, in lists by the classes that they lead to.

    The states of the class that are not touched all lead to the same classes. Those that lead to what most of them
    lead to stay, so that no state leaves a class often.
    """
    groups = {}
    for state in touched:
        groups.setdefault(goals_of(rows[state], classes), []).append(state)
    others = len(held) - len(touched)
    if others:
        among = {state: True for state in touched}
        for state in held:
            if state not in among:
                break
        own = goals_of(rows[state], classes)
        groups.setdefault(own, [])
        if len(groups[own]) + others >= max([len(group) for group in groups.values()]):
            del groups[own]
            return list(groups.values())
        groups[own].extend([state for state in held if state not in among])
    return sorted(list(groups.values()), key=len)[:-1]


def split_all(touched, held, rows, classes):
    """Part the classes of the touched states, and return the states that are in another class now."""
    parts = {}
    for state in touched:
        parts.setdefault(classes[state], []).append(state)
    # All of these are told before a class is changed, so that those of one class can be compared.
    splits = [(kind, leavers(held[kind], part, rows, classes)) for kind, part in parts.items()]
    moved = []
    for kind, groups in splits:
        for group in groups:
            for state in group:
                del held[kind][state]
                classes[state] = len(held)
            held.append({state: True for state in group})
            moved.extend(group)
    return moved


def classes_of(rows, ends):
    """Return for each state the number of its class, NOWHERE if it leads to no end, and how many classes there are.

    If there are more than MAX_ROWS, only so many are told apart.
    """
    sources = turned(rows)
    living = list(reached_from([state for state, end in enumerate(ends) if end], sources))
    classes = [NOWHERE] * len(rows)
    held = []
    for wanted in (False, True):
        group = {state: True for state in living if ends[state] == wanted}
        for state in group:
            classes[state] = len(held)
        if group:
            held.append(group)
    touched = living
    while touched and len(held) <= MAX_ROWS:
        moved = split_all(touched, held, rows, classes)
        touched = list({source: True for state in moved for source in sources[state]})
    return classes, len(held)


def numbered(rows, ends, classes):
    """Return the machine of the classes, in the order of the first words by which they are come to."""
    places = {classes[0]: 0}
    found, told, ahead = [], [], [0]
    while ahead:
        behind = []
        for state in ahead:
            told.append(ends[state])
            row = []
            for goal in rows[state]:
                kind = classes[goal]
                if kind != NOWHERE and kind not in places:
                    places[kind] = len(places)
                    behind.append(goal)
                row.append(places.get(kind))
            found.append(tuple(row))
        ahead = behind
    return (len(rows[0]), tuple(found), tuple(told))


def merged(rows, ends):
    """Return the smallest machine of the words that lead from the first state to an end, or None if it is too great.

    If there are more states than a machine may have, some word leads to each of them.
    """
    classes, many = classes_of(rows, ends)
    if many > MAX_ROWS:
        return None
    if classes[0] == NOWHERE:
        return (len(rows[0]), ((None,) * len(rows[0]),), (False,))
    return numbered(rows, ends, classes)
