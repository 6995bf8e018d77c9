"""What a rule leaves of a kind, as a machine."""

from pairedaway.beginnings import LeftWalk
from pairedaway.machines import apart
from pairedaway.words import machine_error


def left_of(kind, rule):
    """Return a machine of the words of the kind that have no change."""
    walk = LeftWalk(kind, rule)
    return (kind[0], tuple(walk.rows), tuple([kind[2][state] for state, text in walk.spots]))


def left_holds(kind, rule, value):
    """Return whether value is a machine with the letters of the kind, of just its words that have no change."""
    if machine_error(value) is not None or value[0] != kind[0]:
        return False
    return apart(value, left_of(kind, rule)) is None
