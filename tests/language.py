"""Checks of the rules of LANGUAGE.md, L1 to L28, over the text of the package.

Where that is simpler, a check is narrower than its rule: what the program has not needed so far (decorators,
annotations, `with`, `match`, generator expressions, stored sets, lists at module level, dicts there that are more than
looked up in ..) is not let through at all. Widen a check, by the words of its rule, when the program needs more.

The checks do not see everything: nothing of the values of a run (keys of dicts, L24; numbers of arguments, L22), and
of operators (L5) only which there are. What no check sees must still be read for.
"""

import ast
import builtins
import io
import re
import sys
import tokenize
import warnings

PACKAGE = "pairedaway"
BUILTINS = {
    "len", "range", "enumerate", "zip", "min", "max", "sum", "abs", "sorted", "reversed", "int", "str", "bool",
    "list", "tuple", "dict", "set", "isinstance", "ord", "repr", "any", "all", "divmod", "NotImplemented",
}
PYTHON_ERRORS = {
    "Exception", "ValueError", "TypeError", "KeyError", "IndexError", "LookupError", "ZeroDivisionError",
    "ArithmeticError", "OverflowError", "RuntimeError", "NotImplementedError",
}
KINDS = {"int", "str", "bool", "bytes", "list", "tuple", "dict"}
KEYWORDS = {
    "sorted": {"key", "reverse"}, "min": {"key", "default"}, "max": {"key", "default"}, "sum": {"start"},
    "enumerate": {"start"}, "zip": {"strict"},
}
METHODS = set(
    "append clear copy count endswith extend find get index insert isalnum isalpha isdigit islower isspace isupper items"
    " join keys ljust lower lstrip partition pop remove replace reverse rfind rjust rpartition rsplit rstrip setdefault"
    " split splitlines startswith strip update upper values zfill bit_length".split()
)
MUTATORS = {"append", "clear", "extend", "insert", "pop", "remove", "reverse", "setdefault", "update", "sort"}
ATTRIBUTES = {"count", "index", "title", "find", "get", "join", "lower", "upper", "split", "strip", "copy", "add"}
BUILTIN_NAMES = {
    name for kind in (str, int, list, dict, set, bytes, tuple) for name in dir(kind) if not name.startswith("__")
} | {"args"}
DUNDERS = {
    f"__{name}__" for name in
    "init eq repr str len iter lt le gt ge ne add sub mul iadd isub imul contains getitem setitem bool".split()
}
CHANGING = {"__iadd__", "__isub__", "__imul__", "__setitem__"}
OPERATORS = CHANGING | {
    f"__{name}__" for name in "lt le gt ge ne add sub mul contains getitem bool".split()
}
UNUSED = {
    "register", "mro", "elements", "open", "input", "law", "version_info", "with_traceback", "add_note",
}
UNBOUND = UNUSED | set(
    "attrgetter breakpoint builtins compile copyright credits delattr dir eval exec exit gc getattr globals hasattr help"
    " id importlib license locals methodcaller os quit setattr super type vars sys __name__".split()
)
BARRED_WORDS = re.compile(
    r"\b(type|typing|typing_extensions|enum|Enum|IntEnum|StrEnum|Flag|IntFlag|Generic|Protocol|ABC|ABCMeta|namedtuple"
    r"|NamedTuple|TypedDict|TYPE_CHECKING|abstractmethod)\b|dataclass|overload|contextmanager"
)
FRAME_NAMES = re.compile(r"\b(f_(back|builtins|code|globals|lasti|lineno|locals|trace)|tb_\w+|co_\w+|gi_\w+|cr_\w+)\b")
STATEMENTS = (
    ast.Assign, ast.AugAssign, ast.If, ast.While, ast.For, ast.Return, ast.Break, ast.Continue, ast.Pass, ast.Raise,
    ast.Assert, ast.Delete, ast.Try, ast.Expr, ast.FunctionDef, ast.ClassDef, ast.ImportFrom,
)
EXPRESSIONS = (
    ast.BoolOp, ast.BinOp, ast.UnaryOp, ast.Lambda, ast.IfExp, ast.Dict, ast.Set, ast.ListComp, ast.SetComp, ast.DictComp,
    ast.Yield, ast.YieldFrom, ast.Compare, ast.Call, ast.JoinedStr, ast.FormattedValue, ast.Constant, ast.Attribute,
    ast.Subscript, ast.Slice, ast.Starred, ast.Name, ast.List, ast.Tuple,
)
FUNCTIONS = (ast.FunctionDef, ast.Lambda)
COMPREHENSIONS = (ast.ListComp, ast.SetComp, ast.DictComp)
TAKERS = {"list", "tuple", "dict", "sorted", "sum", "any", "all", "enumerate", "zip", "min", "max"}
BARRED_FILES = re.compile(r"law_.*|tests?|testing|test_.*|site|conftest|sitecustomize|usercustomize")


class File:
    """One file of the package: its text and its tree, each node with the one above it."""

    def __init__(self, name, text):
        self.name, self.text, self.lines = name, text, text.split("\n")
        with warnings.catch_warnings():
            warnings.simplefilter("error")
            self.tree = ast.parse(text)
            compile(text, name, "exec")
        for node in ast.walk(self.tree):
            for below in ast.iter_child_nodes(node):
                below.above = node

    def each(self, *kinds):
        return [node for node in ast.walk(self.tree) if isinstance(node, kinds)]

    def called(self, *names):
        return [call for call in self.each(ast.Call) if isinstance(call.func, ast.Name) and call.func.id in names]

    def top_names(self):
        """The names bound at module level, with their lines; those of imports last."""
        own, taken = [], []
        for node in self.tree.body:
            if isinstance(node, (ast.FunctionDef, ast.ClassDef)):
                own.append((node.name, node.lineno))
            elif isinstance(node, ast.Assign):
                own += [(name.id, node.lineno) for name in node.targets if isinstance(name, ast.Name)]
            elif isinstance(node, (ast.ImportFrom, ast.Import)):
                taken += [(alias.asname or alias.name, node.lineno) for alias in node.names]
        return own, taken

    def local_names(self):
        """Parameters, local variables, loop variables, caught errors and nested functions."""
        found = [(node.arg, node) for node in self.each(ast.arg)]
        found += [(node.id, node) for node in self.each(ast.Name) if not isinstance(node.ctx, ast.Load) and inside(node)]
        found += [(node.name, node) for node in self.each(ast.ExceptHandler) if node.name]
        found += [(node.name, node) for node in self.each(ast.FunctionDef) if isinstance(inside(node), FUNCTIONS)]
        return [(name, getattr(node, "lineno", 0)) for name, node in found]

    def methods(self):
        return [node for node in self.each(ast.FunctionDef) if isinstance(node.above, ast.ClassDef)]


def inside(node):
    """The nearest function or class around a node, or None."""
    while node := getattr(node, "above", None):
        if isinstance(node, (*FUNCTIONS, ast.ClassDef)):
            return node
    return None


def is_text(node):
    return isinstance(node, ast.Constant) and isinstance(node.value, str)


def is_docstring(node):
    return isinstance(node, ast.Expr) and is_text(node.value)


def is_plain(node):
    if isinstance(node, ast.Constant):
        return node.value is None or isinstance(node.value, (int, str, bytes))
    if isinstance(node, ast.UnaryOp):
        return isinstance(node.op, ast.USub) and isinstance(node.operand, ast.Constant)
    return isinstance(node, ast.Tuple) and all(is_plain(item) for item in node.elts)


def is_table(node, defined):
    """Whether a node is a dict of plain values and of functions defined so far."""
    if not isinstance(node, ast.Dict) or not all(key is not None and is_plain(key) for key in node.keys):
        return False
    return all(is_plain(item) or isinstance(item, ast.Name) and item.id in defined for item in node.values)


def is_whole(node, low, high):
    return isinstance(node, ast.Constant) and type(node.value) is int and low <= node.value <= high


def files(package):
    if f"{PACKAGE}/__init__.py" not in [f"{PACKAGE}/{file.name}" for file in package]:
        yield "__init__.py", 0
    for file in package:
        if not re.fullmatch(r"[A-Za-z0-9_/]+\.py", file.name):
            yield file.name, 0


def imports(package):
    for file in package:
        rest = [node for node in file.tree.body if not is_docstring(node)]
        while rest and isinstance(rest[0], ast.ImportFrom):
            rest.pop(0)
        for node in file.each(ast.Import):
            yield file, node
        for node in file.each(ast.ImportFrom):
            late = node in rest or node.above != file.tree
            own = node.module and node.module.startswith(PACKAGE + ".") and "__main__" not in node.module
            if late or node.level or not own or any(alias.name == "*" for alias in node.names):
                yield file, node


def module_level(package):
    for file in package:
        defined = set()
        for at, node in enumerate(file.tree.body):
            plain = isinstance(node, ast.Assign) and len(node.targets) == 1 and isinstance(node.targets[0], ast.Name)
            plain = plain and (is_plain(node.value) or is_table(node.value, defined))
            code = isinstance(node, (ast.FunctionDef, ast.ClassDef, ast.ImportFrom))
            if isinstance(node, ast.FunctionDef):
                defined.add(node.name)
            if not plain and not code and not (at == 0 and is_docstring(node)):
                yield file, node


def parameters(package):
    for file in package:
        for node in file.each(*FUNCTIONS):
            args = node.args
            starred = args.vararg or args.kwarg or (args.kwonlyargs and isinstance(node, ast.Lambda))
            defaults = [value for value in [*args.defaults, *args.kw_defaults] if value is not None]
            if args.posonlyargs or starred or not all(is_plain(value) for value in defaults):
                yield file, node
            if isinstance(node, ast.FunctionDef) and node.decorator_list:
                yield file, node


def classes(package):
    for file in package:
        for node in file.each(ast.ClassDef):
            names = [row.name for row in node.body if isinstance(row, ast.FunctionDef)]
            if node.decorator_list or node.keywords or len(node.bases) > 1:
                yield file, node
            if not all(isinstance(base, ast.Name) for base in node.bases):
                yield file, node
            if "__getitem__" in names and "__iter__" not in names:
                yield file, node
            for row in node.body:
                value = isinstance(row, ast.Assign) and is_plain(row.value) and len(row.targets) == 1
                if not isinstance(row, ast.FunctionDef) and not value and not is_docstring(row):
                    yield file, row
        for method in file.methods():
            if method.name.startswith("__") and method.name not in DUNDERS:
                yield file, method
    yield from operators(package)


def operators(package):
    """What L5 asks of operators; narrower in that what they come to may not even change lists of its own."""
    methods = [(file, node) for file in package for node in file.methods()]
    functions = {node.name: node for file in package for node in file.each(ast.FunctionDef)}
    many = {"__setitem__": 3, "__bool__": 1, "__len__": 1, "__str__": 1, "__repr__": 1}
    found = [node for file, node in methods if node.name in OPERATORS]
    for file, node in methods:
        if node.name in OPERATORS and (len(node.args.args) != many.get(node.name, 2) or node.args.defaults):
            yield file, node
        quiet = node.name in OPERATORS - CHANGING or node.name in ("__eq__", "__str__", "__repr__", "__len__")
        if found and quiet and not is_quiet(node, functions):
            yield file, node
    if "__getitem__" in [node.name for node in found]:
        stored = [(file, node.attr, node) for file in package for node in file.each(ast.Attribute)]
        for file, name, node in stored + [(file, node.name, node) for file, node in methods]:
            if name == "keys" and not isinstance(node.above, ast.Call):
                yield file, node
        for file in package:
            for call in file.called("reversed"):
                taken = call.args[0].func.id if isinstance(call.args[0], ast.Call) else ""
                if taken not in ("list", "tuple", "sorted", "range"):
                    yield file, call


def is_quiet(node, functions):
    """Whether a function, and all that it calls by name, changes nothing and calls nothing but own functions."""
    known, ahead = {node.name}, [node]
    for held in ahead:
        for below in ast.walk(held):
            if isinstance(below, (ast.AugAssign, ast.Delete)) or changes_anything(held):
                return False
            if isinstance(below, ast.Call) and isinstance(below.func, ast.Attribute) and below.func.attr not in METHODS:
                return False
            if isinstance(below, ast.Call) and isinstance(below.func, ast.Name) and below.func.id in functions:
                if below.func.id not in known:
                    known.add(below.func.id)
                    ahead.append(functions[below.func.id])
    return True


def statements(package):
    for file in package:
        for node in file.each(ast.stmt):
            bad = not isinstance(node, STATEMENTS)
            if isinstance(node, ast.Expr):
                bad = not is_docstring(node) and not isinstance(node.value, (ast.Call, ast.Yield, ast.YieldFrom))
            if isinstance(node, ast.AugAssign):
                bad = isinstance(node.target, ast.Subscript) and isinstance(node.target.slice, ast.Slice)
            if isinstance(node, ast.Delete):
                bad = not all(isinstance(goal, ast.Subscript) for goal in node.targets)
            if isinstance(node, ast.Try):
                bad = not all(is_simple_row(row) for row in node.finalbody)
            if isinstance(node, ast.Assert):
                bad = isinstance(node.test, ast.Tuple)
            if bad:
                yield file, node


def is_simple(node):
    """Whether a node is what L6 Finally calls SIMPLE; sums are not let through here."""
    if isinstance(node, ast.Attribute):
        return is_simple(node.value)
    if isinstance(node, (ast.List, ast.Tuple)):
        return all(is_simple(item) for item in node.elts)
    return isinstance(node, (ast.Name, ast.Constant))


def is_simple_row(row):
    """Whether a statement may stand in a `finally`."""
    if isinstance(row, ast.If):
        test = row.test
        asked = isinstance(test, ast.Compare) and len(test.ops) == 1 and isinstance(test.ops[0], (ast.Is, ast.IsNot))
        asked = asked and isinstance(test.left, (ast.Name, ast.Attribute)) and is_simple(test.left)
        asked = asked and isinstance(test.comparators[0], ast.Constant) and test.comparators[0].value is None
        return asked and all(is_simple_row(below) for below in row.body + row.orelse)
    if not isinstance(row, ast.Assign):
        return isinstance(row, ast.Pass)
    goal, value = row.targets[0], row.value
    goals = goal.elts if isinstance(goal, ast.Tuple) else [goal]
    if isinstance(goal, ast.Tuple) and not (isinstance(value, ast.Tuple) and len(goals) == len(value.elts)):
        return False
    whole = all(isinstance(place, (ast.Name, ast.Attribute)) and is_simple(place) for place in goals)
    return len(row.targets) == 1 and whole and is_simple(value)


def expressions(package):
    for file in package:
        for node in file.each(ast.expr):
            bad = not isinstance(node, EXPRESSIONS)
            if isinstance(node, ast.Constant):
                bad = node.value is not None and not isinstance(node.value, (int, str, bytes))
            if isinstance(node, ast.BinOp):
                bad = isinstance(node.op, (ast.Div, ast.MatMult))
            if isinstance(node, ast.Starred):
                bad = not isinstance(node.above, (ast.List, ast.Tuple))
            if isinstance(node, (ast.Yield, ast.YieldFrom)):
                bad = not isinstance(node.above, ast.Expr)
            if isinstance(node, ast.Dict):
                bad = None in node.keys
            if isinstance(node, COMPREHENSIONS):
                tests = sum(len(part.ifs) for part in node.generators)
                bad = len(node.generators) > 6 or tests > 12 or not isinstance(inside(node), FUNCTIONS)
            if bad:
                yield file, node
        for node in file.each(ast.AugAssign):
            if isinstance(node.op, (ast.Div, ast.MatMult)):
                yield file, node


def builtin_names(package):
    for file in package:
        own, taken = file.top_names()
        known = {name for name, line in [*own, *taken, *file.local_names()]} | BUILTINS | PYTHON_ERRORS | {"bytes"}
        for node in file.each(ast.Name):
            if isinstance(node.ctx, ast.Load) and node.id not in known:
                yield file, node
        for node in file.each(ast.Attribute):
            if node.attr in ("format", "format_map", "mro"):
                yield file, node


def outside(package):
    for file in package:
        for node in file.each(ast.Name):
            if node.id in ("print", "open", "input", "sys"):
                yield file, node


def sizes(package):
    for file in package:
        if len(file.text.splitlines()) > 399:
            yield file, 399
        for at, line in enumerate(file.lines):
            if len(line) > 120 or "\t" in line:
                yield file, at + 1
        for node in file.each(ast.FunctionDef):
            if node.end_lineno - node.lineno + 1 > 40:
                yield file, node


def recursion(package):
    """Narrower than the rule: no function calls itself, not even by way of others."""
    calls, places = {}, {}
    for file in package:
        for node in file.each(ast.FunctionDef):
            name = ("." if isinstance(node.above, ast.ClassDef) else "") + node.name
            places[name] = (file, node)
            for call in ast.walk(node):
                if isinstance(call, ast.Call) and isinstance(call.func, ast.Name):
                    calls.setdefault(name, set()).add(call.func.id)
                elif isinstance(call, ast.Call) and isinstance(call.func, ast.Attribute) and call.func.attr != "__init__":
                    calls.setdefault(name, set()).add("." + call.func.attr)
    for name in sorted(places):
        found, ahead = set(), [name]
        while ahead:
            for called in calls.get(ahead.pop(), set()) - found:
                found.add(called)
                ahead.append(called)
        if name in found:
            yield places[name]


def plain_names(package):
    for file in package:
        own, taken = file.top_names()
        names = own + taken + file.local_names() + [(node.name, node.lineno) for node in file.methods()]
        names += [(node.attr, node.lineno) for node in file.each(ast.Attribute)]
        names += [(word.arg, word.lineno) for word in file.each(ast.keyword) if word.arg]
        for name, line in names:
            if not re.fullmatch(r"[A-Za-z][A-Za-z0-9_]*", name) and name not in DUNDERS:
                yield file, line


def sets_and_lambdas(package):
    for file in package:
        lines = [node.lineno for node in file.each(ast.Lambda)]
        for node in file.each(ast.Lambda):
            if lines.count(node.lineno) > 1:
                yield file, node
        for node in file.each(ast.Set):
            if len(node.elts) > 2 or any(isinstance(item, (ast.UnaryOp, ast.Tuple)) for item in node.elts):
                yield file, node


def characters(package):
    if PACKAGE in sys.stdlib_module_names or len(package) > 100:
        yield PACKAGE, 0
    for file in package:
        stem = file.name.split("/")[-1].removesuffix(".py")
        barred = BARRED_FILES.fullmatch(stem) or BARRED_WORDS.fullmatch(stem) or stem in dir(builtins)
        if file.name != file.name.lower() or barred:
            yield file, 0
        for at, line in enumerate(file.lines):
            if not all(" " <= letter <= "~" for letter in line):
                yield file, at + 1


def one_binding(package):
    for file in package:
        own, taken = file.top_names()
        names = [name for name, line in own + taken]
        fixed = {name for name, line in taken} | {node.name for node in file.each(ast.ClassDef)}
        for name, line in own + taken:
            if names.count(name) > 1 or name in dir(builtins):
                yield file, line
        for name, line in file.local_names():
            if name in fixed or name in dir(builtins):
                yield file, line
        for node in file.each(ast.ClassDef):
            if inside(node):
                yield file, node
        tables = {row.targets[0].id for row in file.tree.body if isinstance(getattr(row, "value", None), ast.Dict)}
        for node in file.each(ast.Name):
            if node.id in tables and inside(node) and not is_looked_up(node):
                yield file, node


def is_looked_up(node):
    """Whether a dict at module level is only read here, by an index or by `in`."""
    above = node.above
    if isinstance(above, ast.Subscript):
        called = isinstance(above.above, ast.Call) and above.above.func == above
        return above.value == node and isinstance(above.ctx, ast.Load) and not called
    return isinstance(above, ast.Compare) and isinstance(above.ops[-1], (ast.In, ast.NotIn)) and above.left != node


def imported_names(package):
    own = {file.name.removesuffix(".py"): {name for name, line in file.top_names()[0]} for file in package}
    needs = {name: set() for name in own}
    for file in package:
        for node in file.each(ast.ImportFrom):
            goal = (node.module or "").removeprefix(PACKAGE + ".")
            needs[file.name.removesuffix(".py")].add(goal)
            if not all(alias.name in own.get(goal, ()) for alias in node.names) or file.name == "__init__.py":
                yield file, node
    while free := [name for name in needs if not needs[name] & set(needs)]:
        for name in free:
            del needs[name]
    for name in needs:
        yield name, 0


def barred_names(package):
    for file in package:
        own, taken = file.top_names()
        bound = own + taken + file.local_names() + [(node.name, node.lineno) for node in file.methods()]
        used = [(node.attr, node.lineno) for node in file.each(ast.Attribute)]
        used += [(word.arg, word.lineno) for word in file.each(ast.keyword)]
        for name, line in bound:
            if name in UNBOUND or FRAME_NAMES.fullmatch(name):
                yield file, line
        for name, line in used:
            if name in UNUSED or FRAME_NAMES.fullmatch(name or ""):
                yield file, line
        for at, line in enumerate(file.lines):
            if BARRED_WORDS.search(line):
                yield file, at + 1


def class_uses(package):
    owned = {node.name: node for file in package for node in file.each(ast.ClassDef)}
    methods = {node.name for file in package for node in file.methods()}
    stored = {
        node.attr for file in package for node in file.each(ast.Attribute) if not isinstance(node.ctx, ast.Load)
    }
    values = {
        row.targets[0].id for node in owned.values() for row in node.body if isinstance(row, ast.Assign)
    }
    for file in package:
        for node in file.each(ast.ClassDef):
            names = [row.name for row in node.body if isinstance(row, ast.FunctionDef)]
            bases = [base.id for base in node.bases if isinstance(base, ast.Name)]
            if len(names) > len(set(names)) or not set(bases) <= (set(owned) | PYTHON_ERRORS) - {"StopIteration"}:
                yield file, node
        for node in file.each(ast.Attribute):
            called = isinstance(node.above, ast.Call) and node.above.func == node
            if isinstance(node.ctx, ast.Load) and not called and node.attr not in stored | values:
                yield file, node
            if not isinstance(node.ctx, ast.Load):
                if node.attr in methods or not isinstance(node.value, ast.Name) or node.value.id in owned:
                    yield file, node
        for node in file.each(ast.Name):
            if node.id in owned and not class_stands(node):
                yield file, node


def class_stands(node):
    above = node.above
    if isinstance(above, ast.Tuple):
        above = above.above
    if isinstance(above, ast.Call):
        return above.func == node or isinstance(above.func, ast.Name) and above.func.id == "isinstance"
    return isinstance(above, (ast.ClassDef, ast.ExceptHandler)) or isinstance(above, ast.Attribute)


def failures(package):
    owned = {node.name for file in package for node in file.each(ast.ClassDef)}
    for file in package:
        for node in file.each(ast.ExceptHandler):
            kinds = node.type.elts if isinstance(node.type, ast.Tuple) else [node.type]
            names = [kind.id for kind in kinds if isinstance(kind, ast.Name)]
            if not names or len(names) < len(kinds) or not set(names) <= owned | {"KeyError", "ZeroDivisionError"}:
                yield file, node
        for node in file.each(ast.Raise):
            made = isinstance(node.exc, ast.Call) and isinstance(node.exc.func, ast.Name)
            made = made and node.exc.func.id in owned | PYTHON_ERRORS
            cause = node.cause is None or isinstance(node.cause, ast.Constant) and node.cause.value is None
            if node.exc is not None and not made or not cause:
                yield file, node


def identity(package):
    for file in package:
        for node in file.each(ast.Compare):
            for sign, other in zip(node.ops, node.comparators):
                single = isinstance(other, ast.Constant) and (other.value is None or isinstance(other.value, bool))
                if isinstance(sign, (ast.Is, ast.IsNot)) and not single:
                    yield file, node


def annotations(package):
    for file in package:
        for node in file.each(ast.arg, ast.FunctionDef, ast.AnnAssign):
            if getattr(node, "annotation", None) or getattr(node, "returns", None):
                yield file, node


def builtin_calls(package):
    for file in package:
        for node in file.each(ast.Name):
            above = node.above
            called = isinstance(above, ast.Call) and above.func == node
            kind = isinstance(above, ast.Tuple) and isinstance(above.above, ast.Call) and above.above.args[1:] == [above]
            kind = kind or isinstance(above, ast.Call) and above.args[1:] == [node]
            key = isinstance(above, ast.keyword) and above.arg == "key" and node.id in {"len", "int", "str", "abs", "sum"}
            if node.id in BUILTINS - {"NotImplemented"} and not called and not (kind and node.id in KINDS) and not key:
                yield file, node
        for call in file.called("isinstance"):
            kinds = call.args[1].elts if isinstance(call.args[1], ast.Tuple) else [call.args[1]]
            if len(call.args) != 2 or not all(isinstance(kind, ast.Name) for kind in kinds):
                yield file, call
        for call in file.called(*BUILTINS, *PYTHON_ERRORS):
            words = {word.arg for word in call.keywords}
            if not words <= KEYWORDS.get(call.func.id, set()):
                yield file, call


def stands_at_once(call):
    above = call.above
    if isinstance(above, ast.YieldFrom):
        return True
    if isinstance(above, (ast.For, ast.comprehension)):
        return above.iter == call
    if isinstance(above, ast.Call) and isinstance(above.func, ast.Name):
        name = above.func.id
        ranged = isinstance(call.func, ast.Name) and call.func.id == "range" and name in ("reversed", "len")
        return name in TAKERS and call in above.args or ranged
    return False


def iterated_at_once(package):
    made = {
        inside(node).name for file in package for node in file.each(ast.Yield, ast.YieldFrom) if inside(node)
    }
    for file in package:
        calls = file.called("zip", "enumerate", "reversed", "range", *made)
        for call in file.each(ast.Call):
            if isinstance(call.func, ast.Attribute) and call.func.attr in {"items", "keys", "values"} | made:
                calls.append(call)
        for call in calls:
            if not stands_at_once(call):
                yield file, call
        for node in file.each(ast.For):
            names = {name.id for name in ast.walk(node.iter) if isinstance(name, ast.Name)}
            for row in node.body:
                if any(changes(below, names) for below in ast.walk(row)):
                    yield file, row


def changes(node, names):
    """Whether a node changes one of the names in its place."""
    goal = None
    if isinstance(node, ast.Call) and isinstance(node.func, ast.Attribute) and node.func.attr in MUTATORS:
        goal = node.func.value
    elif isinstance(node, ast.Subscript) and not isinstance(node.ctx, ast.Load):
        goal = node.value
    elif isinstance(node, ast.AugAssign):
        goal = node.target
    return isinstance(goal, ast.Name) and goal.id in names


def set_places(package):
    for file in package:
        for node in [*file.called("set", "frozenset"), *file.each(ast.Set, ast.SetComp)]:
            above = node.above
            tested = isinstance(above, ast.Compare) and isinstance(above.ops[-1], (ast.In, ast.NotIn))
            taken = isinstance(above, ast.Call) and isinstance(above.func, ast.Name) and above.func.id in ("sorted", "len")
            if not taken and not (tested and above.comparators[-1] == node):
                yield file, node


def method_calls(package):
    owned = {node.name for file in package for node in file.methods()} - {"__len__", "__eq__"}
    for file in package:
        for call in file.each(ast.Call):
            if isinstance(call.func, ast.Attribute):
                if call.func.attr not in METHODS | owned:
                    yield file, call
                if call.keywords and call.func.attr in METHODS:
                    yield file, call


def own_names(package):
    for file in package:
        for method in file.methods():
            if method.name in BUILTIN_NAMES - METHODS - {"add", "discard"}:
                yield file, method
        for node in file.each(ast.Attribute):
            if not isinstance(node.ctx, ast.Load) and node.attr in BUILTIN_NAMES - ATTRIBUTES:
                yield file, node


def numbers_and_texts(package):
    for file in package:
        for node in file.each(ast.BinOp, ast.AugAssign):
            right = node.right if isinstance(node, ast.BinOp) else node.value
            if isinstance(node.op, ast.Pow) and not is_whole(right, 0, 64):
                yield file, node
        for node in file.called("chr"):
            yield file, node
        for node in file.each(ast.JoinedStr):
            held = [part for part in ast.walk(node) if is_text(part) and not isinstance(part.above, ast.JoinedStr)]
            if node.lineno != node.end_lineno or held:
                yield file, node
        for node in file.each(ast.Constant):
            if isinstance(node.value, str) and not is_good_text(node.value):
                yield file, node
            if isinstance(node.value, int) and abs(node.value) >= 10 ** 900:
                yield file, node
        for token in tokenize.generate_tokens(io.StringIO(file.text).readline):
            if token.type == tokenize.STRING and re.search(r"\\[^nt\\'\"]", token.string.replace("\\\\", "")):
                yield file, token.start[0]


def is_good_text(text):
    if "%" in text or text.endswith(("._", ".__")) or re.fullmatch(r"__.*__", text) or FRAME_NAMES.fullmatch(text):
        return False
    dotted = "." in text and " " not in text
    return not ("{" in text or "}" in text or dotted) or not re.search(r"\b__|" + FRAME_NAMES.pattern, text)


def double_underscores(package):
    for file in package:
        methods = file.methods()
        for node in file.each(ast.FunctionDef):
            if node.name.startswith("__") and node not in methods:
                yield file, node
        for method in methods:
            returns = [node for node in ast.walk(method) if isinstance(node, ast.Return)]
            if method.name == "__init__" and any(node.value is not None for node in returns):
                yield file, method
            if method.name in ("__len__", "__str__", "__repr__") and not isinstance(method.body[-1], ast.Return):
                yield file, method
            if method.name in ("__len__", "__str__", "__repr__", "__eq__") and changes_anything(method):
                yield file, method
        for node in file.each(ast.Attribute):
            first = inside(node)
            if node.attr.startswith("__") and not (node.attr == "__init__" and first and first.name == "__init__"):
                yield file, node


def changes_anything(method):
    for node in ast.walk(method):
        if isinstance(node, (ast.Attribute, ast.Subscript)) and not isinstance(node.ctx, ast.Load):
            return True
        if isinstance(node, ast.Call) and isinstance(node.func, ast.Attribute) and node.func.attr in MUTATORS:
            return True
    return False


RULES = {
    "L1": files, "L2": imports, "L3": module_level, "L4": parameters, "L5": classes, "L6": statements, "L7": expressions,
    "L8": builtin_names, "L9": outside, "L10": sizes, "L11": recursion, "L12": plain_names, "L13": sets_and_lambdas,
    "L14": characters, "L15": one_binding, "L16": imported_names, "L17": barred_names, "L18": class_uses,
    "L19": failures, "L20": identity, "L21": annotations, "L22": builtin_calls, "L23": iterated_at_once,
    "L24": set_places, "L25": method_calls, "L26": own_names, "L27": numbers_and_texts, "L28": double_underscores,
}


def breaches(texts):
    """The breaches of the rules, as texts "L10 words.py 12", in a package given as names and texts of its files."""
    package = [File(name, text) for name, text in sorted(texts.items())]
    found = []
    for rule, check in RULES.items():
        for place, at in check(package):
            name = place.name if isinstance(place, File) else place
            found.append(f"{rule} {name} {at if isinstance(at, int) else at.lineno}")
    return found
