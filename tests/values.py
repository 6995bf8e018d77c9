"""Values that may be any value, as [3] tells them, for the arguments that may be any."""

from pairedaway.machines import apart, smallest
from pairedaway.rules import change
from pairedaway.verdicts import fault
from pairedaway.weighing import spread
from tests.helpers import every

KIND = (2, ((0, 1), (0, None)), (True, False))
SCHEME = (KIND, "+-", (("aa", "ab"),))
TEXT = "letters ab\nsigns +-\nstate 0 1 end\nstate 0 .\npair aa ab"


def deep(levels):
    value = "a"
    for level in range(levels):
        value = [(value,), [value], {"a": value}][level % 3]
    return value


SIMPLE = (
    None, True, False, 0, 1, -1, 2, 9, 10, 60, 61, 400, 401, 10 ** 60 - 1, -(10 ** 60) + 1,
    "", " ", "\n", "a", "b", "c", "e", "ab", "ba", "abba", "+", "-", "+-", "-+", "add", "drop", "undo", "a b", "A", "0", "1",
    "x" * 3500, "a" * 3500, "\n" * 3500, "~!@#$^&*()", TEXT,
)
RESULTS = (
    fault(every(2), "++", (("a", "b"),)), change((("a", "b"),), "ab"), apart(every(1), (1, ((None,),), (True,))),
    spread(KIND, "+-", (1, 2), 4), smallest(KIND), smallest(KIND)[1], SCHEME, SCHEME[2], SCHEME[2][0], KIND,
)
NESTED = (
    (), (0,), ("a",), ("a", "b"), (("a", "b"),), ("add",), ("add", ("a", "b")), (("add", ("a", "b")),), (None, None, None),
    [], [0], ["a"], ["a", "b"], [("a", "b")], [["a", "b"]], [("add", ("a", "b"))], [None], list(SCHEME), list(KIND),
    {}, {"a": "b"}, {0: 1}, {("a", "b"): None}, {"kind": KIND}, deep(20), [0] * 5999, tuple(range(5999)), [[]] * 3000,
)
ANY = SIMPLE + NESTED + RESULTS
