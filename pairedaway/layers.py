"""Sets of states, each a number with a bit for each state, and what the words of one length come to."""

CHUNK = 8
FULL = 255


class Links:
    """Where one step leads from a set of states."""

    def __init__(self, masks):
        """Take for each state the set of the states that one step leads to."""
        self.masks = masks
        self.tables = [{} for first in range(0, len(masks), CHUNK)]
        self.last = 0
        self.found = 0

    def reach(self, states):
        """Return the set of the states that one step leads to from these."""
        # Sets that are asked for one after another mostly grow: then only what is new is looked at.
        if self.last & ~states:
            self.last = self.found = 0
        self.found |= self.look_up(states & ~self.last)
        self.last = states
        return self.found

    def look_up(self, states):
        """Return the same, without regard to what was asked before."""
        found, chunk = 0, 0
        while states:
            part = states & FULL
            if part == 0:
                skipped = ((states & -states).bit_length() - 1) // CHUNK
                states >>= skipped * CHUNK
                chunk += skipped
                part = states & FULL
            table = self.tables[chunk]
            if part not in table:
                table[part] = self.gather(chunk * CHUNK, part)
            found |= table[part]
            states >>= CHUNK
            chunk += 1
        return found

    def gather(self, first, part):
        """Return where one step leads from some of the states from first on, which the bits of part tell."""
        found = 0
        for state in members(part):
            found |= self.masks[first + state]
        return found


def members(states):
    """Return the ascending list of the states in a set."""
    found = []
    while states:
        lowest = states & -states
        found.append(lowest.bit_length() - 1)
        states ^= lowest
    return found


def set_of(states):
    """Return the set of the states in a list."""
    found = 0
    for state in states:
        found |= 1 << state
    return found


def turned(goals):
    """Return for each state the list of the states that lead to it."""
    sources = [[] for row in goals]
    for state, row in enumerate(goals):
        for goal in row:
            sources[goal].append(state)
    return sources


def word_layers(goals, ends, length):
    """Return a list whose item n is the set of the states that the first n letters of words of this length lead to.

    goals has for each state the list of the states that its letters lead to.
    """
    ahead = Links([set_of(row) for row in goals])
    layers = [1]
    for place in range(length):
        layers.append(ahead.reach(layers[place]))
    back = Links([set_of(row) for row in turned(goals)])
    layers[length] &= set_of([state for state, end in enumerate(ends) if end])
    for place in reversed(range(length)):
        layers[place] &= back.reach(layers[place + 1])
    return layers
