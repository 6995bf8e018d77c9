"""The rules of LANGUAGE.md: that the package keeps to them, and that the checks would see if it did not."""

import pathlib
import unittest

from tests.language import RULES, breaches

FOLDER = pathlib.Path(__file__).resolve().parent.parent / "pairedaway"

GOOD = '''"""A docstring."""

LIMIT = -3
WORDS = ("a", ("b", None), True)


def least():
    return LIMIT


TABLE = {"a": 1, 2: ("b", None), "c": least}


class Bad(ValueError):
    """An error."""

    def __init__(self, at):
        self.at = at


class Box:
    """A class."""

    MOST = 5

    def __init__(self, rows=()):
        self.rows = list(rows)

    def __len__(self):
        return len(self.rows)

    def __getitem__(self, at):
        return self.rows[at]

    def __iter__(self):
        raise TypeError("a")

    def __setitem__(self, at, worth):
        self.rows[at] = worth

    def __iadd__(self, other):
        self.put(other)
        return self

    def put(self, row, *, times=1):
        if times < LIMIT or not isinstance(row, (int, str)):
            raise Bad(times)
        self.rows.append(row)
        return f"{len(self.rows)} of {Box.MOST}"


def each(rows):
    for at, row in enumerate(rows):
        if at and row is not None:
            yield row


def held(rows, text):
    first, *rest = [row for row in each(rows)]
    table = {name: len(name) for name in text.split(",")}
    try:
        total = table[first]
    except KeyError:
        raise Bad("x")
    finally:
        if table is not None:
            first, rest = rest, first
        else:
            rest = None
    action = TABLE["c"] if "c" in TABLE else least
    while rest:
        rest.pop()
        total += 2 ** 5 if "a" in set(text) else -1
    return sorted(set(text), key=lambda name: -table[name]), max(list(table.values())), total
'''

# For each rule, files' texts that break it.
BAD = {
    "L2": (
        "import sys",
        "from sys import argv",
        "from pairedaway.a import *",
        "from . import a",
        "from .a import b",
        "def f():\n    from pairedaway.a import b\n    return b",
        "K = 1\nfrom pairedaway.a import b",
    ),
    "L3": (
        "K = 1 + 1",
        "K, L = 1, 2",
        "K = L = 1",
        "len('a')",
        "if 1:\n    K = 1",
        "K = []",
        "K = {1: []}",
        "K = {1: f}\n\n\ndef f():\n    return 1",
        "K = {1: 1 + 1}",
        "K = len('a')",
        "for x in 'a':\n    K = 1",
    ),
    "L4": (
        "def f(a, /):\n    return a",
        "def f(*a):\n    return a",
        "def f(**a):\n    return a",
        "def f(a=[]):\n    return a",
        "@g\ndef f():\n    return 1",
    ),
    "L5": (
        "class A(Box, Bin):\n    K = 1",
        "class A:\n    x = []",
        "class A:\n    def __hash__(self):\n        return 1",
        "class A:\n    def __getitem__(self, at):\n        return at",
        "@f\nclass A:\n    K = 1",
        "class A(k=1):\n    K = 1",
        "class A:\n    if 1:\n        K = 1",
        "class A:\n    def __iadd__(self, other, more):\n        return self",
        "class A:\n    def __contains__(self, x):\n        self.n = 1\n        return True",
        "class A:\n    def __contains__(self, x):\n        return f()\n\n\ndef f():\n    n = 1\n    n += 1\n    return n",
        "class A:\n    def __bool__(self):\n        return self.n()",
        "class A:\n    def __getitem__(self, at):\n        return 1\n\n    def __iter__(self):\n        raise TypeError('a')"
        "\n\n\ndef f(a):\n    return list(reversed(a))",
        "class A:\n    def __getitem__(self, at):\n        return 1\n\n    def __iter__(self):\n        raise TypeError('a')"
        "\n\n    def keys(self):\n        return 1",
    ),
    "L6": (
        "def f():\n    global K",
        "def f(a):\n    a",
        "async def f():\n    return 1",
        "def f(a):\n    a[1:] += [1]",
        "def f(a):\n    with a:\n        return 1",
        "def f(a):\n    try:\n        a()\n    finally:\n        return 1",
        "def f(a):\n    try:\n        a()\n    finally:\n        a[0] = 1",
        "def f(a):\n    try:\n        a()\n    finally:\n        a.pop()",
        "def f(a):\n    try:\n        a()\n    finally:\n        a = -1",
        "def f(a):\n    try:\n        a()\n    finally:\n        a, b = a",
        "def f(a):\n    try:\n        a()\n    finally:\n        if a:\n            a = 1",
        "def f(a):\n    try:\n        a()\n    finally:\n        if a is None:\n            a()",
        "def f(a):\n    del a",
        "def f(a):\n    match a:\n        case 1:\n            return 1",
    ),
    "L7": (
        "K = 1.5",
        "def f(a):\n    return a / 2",
        "def f(a):\n    a /= 2",
        "def f(a):\n    return {**a}",
        "def f(a):\n    return g(*a)",
        "def f(a):\n    return sum(x for x in a)",
        "def f(a):\n    return (b := a)",
        "K = [x for x in 'a']",
        "def f():\n    return ...",
        "def f(a):\n    return a @ a",
    ),
    "L8": (
        "def f(a):\n    return hash(a)",
        "def f(a):\n    return map(len, a)",
        "def f(a):\n    return a.format(1)",
        "def f():\n    return nowhere",
        "def f(a):\n    return round(a)",
    ),
    "L9": (
        "def f():\n    print(1)",
        "def f():\n    return open('a')",
        "def f():\n    return input()",
    ),
    "L10": (
        "K = 1\n" * 400,
        "K = '" + "x" * 120 + "'",
        "def f():\n" + "    g()\n" * 40,
        "def f():\n\treturn 1",
    ),
    "L11": (
        "def f(a):\n    return f(a)",
        "def f():\n    return g()\n\n\ndef g():\n    return f()",
        "class A:\n    def go(self):\n        return self.go()",
    ),
    "L12": (
        "def f(_):\n    return 1",
        "def f():\n    _a = 1\n    return _a",
        "class A:\n    def _go(self):\n        return 1",
        "def f(a):\n    return a._b",
        "K_ = 1\n_K = 1",
    ),
    "L13": (
        "def f(a):\n    return a in {1, 2, 3}",
        "def f(a):\n    return a in {-1, -2}",
        "def f(a):\n    return g(lambda x: x, lambda x: -x)",
    ),
    "L14": (
        "# caf\u00e9\nK = 1",
        "K = '\u00e9'",
        "K = 1\r\nL = 2\f",
    ),
    "L15": (
        "K = 1\nK = 2",
        "def f():\n    return 1\n\n\nf = 1",
        "def f(len):\n    return 1",
        "def f():\n    hash = 1\n    return hash",
        "def next():\n    return 1",
        "class A:\n    K = 1\n\n\ndef f(A):\n    return A",
        "def f():\n    class A:\n        K = 1\n    return 1",
        "def f(a):\n    for id in a:\n        g()",
        "K = {1: 2}\n\n\ndef f():\n    return K",
        "K = {1: 2}\n\n\ndef f():\n    K[1] = 3",
        "K = {1: 2}\n\n\ndef f():\n    K.update(1)",
        "def g():\n    return 1\n\n\nK = {1: g}\n\n\ndef f():\n    return K[1]()",
    ),
    "L16": (
        "from pairedaway.other import missing",
        "from pairedaway.nowhere import a",
        "from pairedaway.good import nothing",
    ),
    "L17": (
        "# a type",
        "K = 'typing'",
        "def f(register):\n    return 1",
        "def f(a):\n    return a.open",
        "def f(vars):\n    return 1",
        "# mydataclasses",
        "def f(a):\n    return a.tb_next",
        "class A:\n    def law(self):\n        return 1",
    ),
    "L18": (
        "class A:\n    def f(self):\n        return 1\n\n    def f(self):\n        return 2",
        "class A:\n    K = 1\n\n\ndef f():\n    return [A]",
        "class A:\n    def go(self):\n        self.go = 1",
        "class A(StopIteration):\n    K = 1",
        "def f(a):\n    return a.nowhere",
        "class A:\n    K = 1\n\n\ndef f():\n    A.K = 2",
        "class A:\n    K = 1\n\n\ndef f(a):\n    b = A\n    return b",
        "def f(a):\n    a.b.c = 1",
    ),
    "L19": (
        "def f(a):\n    try:\n        a()\n    except:\n        g()",
        "def f(a):\n    try:\n        a()\n    except Exception:\n        g()",
        "def f(a):\n    try:\n        a()\n    except ValueError:\n        g()",
        "def f(a):\n    try:\n        a()\n    except (KeyError, TypeError):\n        g()",
        "def f(a):\n    raise a",
        "def f(a):\n    raise ValueError",
        "def f(a):\n    raise a()",
        "def f(a):\n    raise ValueError(1) from a",
    ),
    "L20": (
        "def f(a, b):\n    return a is b",
        "def f(a):\n    return a is ()[:]",
        "def f(a):\n    return a is not g()",
    ),
    "L21": (
        "def f(a: int):\n    return a",
        "def f() -> int:\n    return 1",
        "def f():\n    a: int = 1\n    return a",
    ),
    "L22": (
        "def f(a):\n    b = len\n    return b(a)",
        "def f(a):\n    return isinstance(a, set)",
        "def f(a):\n    return isinstance(a, a.kind)",
        "def f(a):\n    return int(a, base=2)",
        "def f(a):\n    return g(str)",
    ),
    "L23": (
        "def f(a):\n    return range(a)",
        "def f(a):\n    b = zip(a, a)\n    return b",
        "def f(a):\n    return a.items()",
        "def f(a):\n    for x in a:\n        a.append(x)",
        "def f(a):\n    for x in enumerate(a):\n        a[0] = x",
        "def f(a):\n    for x in a:\n        a += [x]",
        "def f(a):\n    yield a\n\n\ndef g(a):\n    return f(a)",
        "def f(a):\n    return list(reversed(zip(a)))",
    ),
    "L24": (
        "def f(a):\n    b = set(a)\n    return 1",
        "def f(a):\n    for x in set(a):\n        g()",
        "def f(a):\n    return {x for x in a}",
        "def f(a):\n    return {a, 1} | {a}",
        "def f(a):\n    return list(set(a))",
    ),
    "L25": (
        "def f(a):\n    return a.fromkeys(1)",
        "def f(a):\n    a.sort()",
        "def f(a):\n    return a.split(sep=',')",
        "def f(a):\n    return a.encode()",
    ),
    "L26": (
        "class A:\n    def encode(self):\n        return 1",
        "class A:\n    def __init__(self):\n        self.items = 1",
        "class A:\n    def __init__(self):\n        self.args = 1",
        "class A:\n    def sort(self):\n        return 1",
    ),
    "L27": (
        "def f(n):\n    return 2 ** n",
        "def f(n):\n    n **= 65",
        "K = '5%'",
        "def f(n):\n    return chr(n)",
        "K = '\\x41'",
        "K = 'a._'",
        "K = '__odd__'",
        "K = 'f_code'",
        "K = '{__x}'",
        "K = 'a.__x'",
        "def f(a):\n    return f\"{a['b']}\"",
        "K = " + "9" * 901,
        "def f(a):\n    return 2 ** -1",
        "K = '\\u0041'",
    ),
    "L28": (
        "class A:\n    def __init__(self):\n        return None",
        "def __len__(a):\n    return 1",
        "class A:\n    def __len__(self):\n        self.n = 1\n        return 1",
        "class A:\n    def __str__(self):\n        if self:\n            return 'a'",
        "class A:\n    def __eq__(self, other):\n        self.n.append(1)\n        return True",
        "def f(a):\n    return a.__len__()",
    ),
}


def rules_of(found):
    return {told.split()[0] for told in found}


class PackageTest(unittest.TestCase):
    def test_the_package_keeps_to_every_rule(self):
        texts = {path.relative_to(FOLDER).as_posix(): path.read_bytes().decode("utf-8") for path in FOLDER.rglob("*.py")}
        self.assertIn("words.py", texts)
        self.assertEqual(breaches(texts), [])

    def test_the_folder_holds_nothing_else(self):
        others = [path.name for path in FOLDER.iterdir() if path.suffix != ".py" and path.name != "__pycache__"]
        self.assertEqual(others, [])


class ChecksTest(unittest.TestCase):
    def test_there_is_a_check_for_every_rule(self):
        self.assertEqual(list(RULES), [f"L{number}" for number in range(1, 29)])
        self.assertEqual(set(RULES), {"L1", *BAD})

    def test_good_code_is_let_through(self):
        self.assertEqual(breaches({"__init__.py": "", "good.py": GOOD}), [])
        texts = {"__init__.py": "", "good.py": GOOD, "more.py": "from pairedaway.good import LIMIT\n"}
        self.assertEqual(breaches(texts), [])

    def test_bad_code_is_seen(self):
        for rule, texts in BAD.items():
            for text in texts:
                with self.subTest(rule=rule, text=text[:80]):
                    found = breaches({"__init__.py": "", "good.py": GOOD, "other.py": text + "\n"})
                    self.assertIn(rule, rules_of(found))

    def test_bad_files_are_seen(self):
        self.assertIn("L1", rules_of(breaches({"good.py": GOOD})))
        self.assertIn("L1", rules_of(breaches({"__init__.py": "", "not-plain.py": ""})))
        for name in ("Words.py", "len.py", "tests.py", "test_words.py", "law_one.py", "typing.py"):
            with self.subTest(name=name):
                self.assertIn("L14", rules_of(breaches({"__init__.py": "", name: ""})))

    def test_files_that_import_from_each_other_are_seen(self):
        one = "from pairedaway.two import f\n\n\ndef g():\n    return f()\n"
        two = "from pairedaway.one import g\n\n\ndef f():\n    return g()\n"
        self.assertIn("L16", rules_of(breaches({"__init__.py": "", "one.py": one, "two.py": two})))

    def test_code_for_which_python_warns_is_refused(self):
        for text in ("K = '\\d'\n", "def f(a):\n    return 1if a else 2\n", "def f(a):\n    return a is 'x'\n"):
            with self.subTest(text=text), self.assertRaises((SyntaxError, Warning)):
                breaches({"__init__.py": "", "other.py": text})


if __name__ == "__main__":
    unittest.main()
