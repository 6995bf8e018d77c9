"""The sums that belong to the states of machines, for all lengths, with states that always have the same sum as one."""

from pairedaway.layers import turned


def sign_values(signs):
    """Return the sign of each letter as a number."""
    return [1 if sign == "+" else -1 for sign in signs]


def add_up(columns, marks, sums):
    """Return for each row the sum over its letters of what it leads to.

    columns has for each letter the places that the rows lead to, marks for each letter its sign and by how many bits
    what it leads to is shifted.
    """
    totals = []
    for column, (sign, shift) in zip(columns, marks):
        amounts = [sums[place] << shift for place in column] if shift else [sums[place] for place in column]
        if sign < 0:
            amounts = [-amount for amount in amounts]
        totals = [total + amount for total, amount in zip(totals, amounts)] if totals else amounts
    return totals


def arrows_of(machine, signs, weights, first):
    """Return for each state the list of all (goal, weight, sum of the signs); the goals are counted from first on."""
    arrows = []
    for row in machine[1]:
        sums = {}
        for goal, sign, weight in zip(row, sign_values(signs), weights):
            if goal is not None:
                key = (first + goal, weight)
                sums[key] = sums.get(key, 0) + sign
        arrows.append([(goal, weight, total) for (goal, weight), total in sums.items() if total])
    return arrows


def reached_from(starts, goals):
    """Return the dict of True for each of what the starts lead to by these lists of goals, the starts as well."""
    reached = {start: True for start in starts}
    ahead = list(reached)
    while ahead:
        state = ahead.pop()
        for goal in goals[state]:
            if goal not in reached:
                reached[goal] = True
                ahead.append(goal)
    return reached


def living_states(arrows, ends):
    """Return the dict of True for each state from which arrows lead to an end."""
    sources = turned([[goal for goal, weight, total in row] for row in arrows])
    return reached_from([state for state, end in enumerate(ends) if end], sources)


def profile_of(row, classes):
    """Return the sums of the arrows of a state by the classes that they lead to and by their weights."""
    sums = {}
    for goal, weight, total in row:
        key = (classes[goal], weight)
        sums[key] = sums.get(key, 0) + total
    return tuple(sorted([(key, total) for key, total in sums.items() if total]))


def parted(held, touched, arrows, classes):
    """Return the states of a class in lists by their profiles, the longest list last.

    Those that are not touched all have the same one.
    """
    groups = {}
    for state in touched:
        groups.setdefault(profile_of(arrows[state], classes), []).append(state)
    among = {state: True for state in touched}
    rest = [state for state in held if state not in among]
    if rest:
        groups.setdefault(profile_of(arrows[rest[0]], classes), []).extend(rest)
    return sorted(list(groups.values()), key=len)


def classes_of(arrows, ends):
    """Return for each state the number of its class; states of one class have the same sums for all lengths."""
    classes = [int(end) for end in ends]
    held = [[state for state, kind in enumerate(classes) if kind == number] for number in range(2)]
    sources = turned([[goal for goal, weight, total in row] for row in arrows])
    touched = list(range(len(ends)))
    while touched:
        parts = {}
        for state in touched:
            parts.setdefault(classes[state], []).append(state)
        # All profiles are told before a class is changed, so that those of one class can be compared.
        splits = [(kind, parted(held[kind], part, arrows, classes)) for kind, part in parts.items()]
        moved = []
        for kind, groups in splits:
            # The longest one stays what it is, so that no state is moved often.
            held[kind] = groups[-1]
            for group in groups[:-1]:
                for state in group:
                    classes[state] = len(held)
                held.append(group)
                moved.extend(group)
        touched = sorted({source for state in moved for source in sources[state]})
    return classes


def joined(parts):
    """Return the arrows and the ends of all states, those of each machine behind one another, and the first states."""
    arrows, ends, firsts = [], [], []
    for machine, signs, weights in parts:
        firsts.append(len(arrows))
        arrows.extend(arrows_of(machine, signs, weights, len(arrows)))
        ends.extend(machine[2])
    return arrows, ends, firsts


def chosen_states(arrows, classes, firsts):
    """Return the ascending list of a state for each class that the first states lead to."""
    chosen = {}
    for state, kind in enumerate(classes):
        chosen.setdefault(kind, state)
    goals = {kind: [classes[goal] for goal, weight, total in arrows[state]] for kind, state in chosen.items()}
    return sorted([chosen[kind] for kind in list(reached_from([classes[first] for first in firsts], goals))])


def columns_of(machine, first, states, places):
    """Return for each letter the places that those of the states which are of this machine lead to."""
    letters, rows = machine[:2]
    own = [rows[state - first] for state in states if first <= state < first + len(rows)]
    return [[places[-1] if row[at] is None else places[first + row[at]] for row in own] for at in range(letters)]


class System:
    """The classes of the states of some machines, and how their sums for a length come from those for one less.

    Sums stand in a list: an item for each class and a last one, always 0, for what leads to no word.
    """

    def __init__(self, parts):
        """Take a list of (machine, signs, weights)."""
        arrows, ends, firsts = joined(parts)
        living = living_states(arrows, ends)
        arrows = [[arrow for arrow in row if arrow[0] in living] for row in arrows]
        classes = classes_of(arrows, ends)
        states = chosen_states(arrows, classes, firsts)
        nowhere = len(states)
        known = {classes[state]: place for place, state in enumerate(states)}
        # Where letters lead, but no arrow does, they cancel or what they lead to has no words.
        places = [known.get(kind, nowhere) for kind in classes] + [nowhere]
        self.size = len(states)
        self.ends = [int(ends[state]) for state in states] + [0]
        self.starts = [known[classes[first]] for first in firsts]
        self.columns = [columns_of(part[0], first, states, places) for part, first in zip(parts, firsts)]

    def step(self, sums, marks):
        """Return the sums for the next length; marks has for each machine the marks of its letters."""
        found = []
        for columns, own in zip(self.columns, marks):
            found.extend(add_up(columns, own, sums))
        found.append(0)
        return found
