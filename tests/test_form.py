"""The form of the package's files, as far as it can be told from their syntax: ../shared/LANGUAGE.md."""

import ast
import builtins
import pathlib
import re
import unittest

PACKAGE = pathlib.Path(__file__).resolve().parent.parent / "heddle"

OWN_NAMES = set("""len range enumerate zip min max sum abs sorted reversed int str bool list tuple dict set frozenset
    isinstance ord repr any all divmod Exception ValueError TypeError KeyError IndexError LookupError
    ZeroDivisionError ArithmeticError OverflowError RuntimeError NotImplementedError AttributeError
    StopIteration""".split())

OWN_METHODS = set("""append clear copy count endswith extend find get index insert isalnum isalpha isdigit islower
    isspace isupper items join keys ljust lower lstrip partition pop remove replace reverse rfind rjust rpartition
    rsplit rstrip setdefault split splitlines startswith strip update upper values zfill bit_length""".split())

WRITTEN_METHODS = {"__init__", "__eq__", "__repr__", "__str__", "__len__"}

BARRED_NAMES = set("""register mro elements open input version_info with_traceback add_note format format_map
    attrgetter breakpoint builtins compile copyright credits delattr dir eval exec exit gc getattr globals hasattr
    help id importlib license locals methodcaller os quit setattr super type vars sys print chr""".split())

BARRED_WORDS = re.compile(r"\b(type|typing|typing_extensions|enum|Enum|IntEnum|StrEnum|Flag|IntFlag|Generic|Protocol"
                          r"|ABC|ABCMeta|namedtuple|NamedTuple|TypedDict|TYPE_CHECKING|abstractmethod)\b"
                          r"|dataclass|overload|contextmanager")

SYNTAX = (ast.Module, ast.FunctionDef, ast.ClassDef, ast.arguments, ast.arg, ast.Lambda, ast.ImportFrom, ast.alias,
          ast.Assign, ast.AugAssign, ast.If, ast.While, ast.For, ast.Return, ast.Break, ast.Continue, ast.Pass,
          ast.Raise, ast.Try, ast.ExceptHandler, ast.Expr, ast.Constant, ast.Name, ast.List, ast.Tuple, ast.Dict,
          ast.Set, ast.BinOp, ast.UnaryOp, ast.BoolOp, ast.Compare, ast.IfExp, ast.Call, ast.keyword, ast.Attribute,
          ast.Subscript, ast.Slice, ast.ListComp, ast.comprehension, ast.JoinedStr, ast.FormattedValue,
          ast.expr_context, ast.operator, ast.unaryop, ast.boolop, ast.cmpop)


def faults_of_text(text):
    """L10, L14, L17: lengths, signs and words of a file."""
    lines = text.split("\n")
    if len(lines) - 1 > 400:
        yield "L10: more than 400 lines"
    for number, line in enumerate(lines, start=1):
        if len(line) > 120:
            yield f"L10: line {number} is longer than 120 signs"
        if not all(" " <= sign <= "~" for sign in line):
            yield f"L14: line {number} has another sign"
        if BARRED_WORDS.search(line):
            yield f"L17: line {number} has a barred word"


def faults_of_top(tree):
    """L2, L3: what stands at the top of a file."""
    for k, node in enumerate(tree.body):
        if k == 0 and isinstance(node, ast.Expr) and isinstance(node.value, ast.Constant):
            continue
        if isinstance(node, ast.ImportFrom):
            if node.level or node.module.split(".")[0] != "heddle" or any(a.name == "*" for a in node.names):
                yield f"L2: line {node.lineno}"
        elif isinstance(node, ast.Assign):
            if any(isinstance(part, (ast.Call, ast.ListComp, ast.Lambda, ast.Set)) for part in ast.walk(node)):
                yield f"L3: line {node.lineno}"
        elif not isinstance(node, (ast.FunctionDef, ast.ClassDef)):
            yield f"L3: line {node.lineno}"


def faults_of_def(node):
    """L4, L10: a function's parameters and its length."""
    given = node.args
    if given.vararg or given.kwarg or given.kwonlyargs or given.posonlyargs or node.decorator_list:
        yield f"L4: line {node.lineno}"
    if node.end_lineno - node.lineno + 1 > 40:
        yield f"L10: the function in line {node.lineno} is longer than 40 lines"
    if node.name.startswith("__") and node.name not in WRITTEN_METHODS:
        yield f"L5: line {node.lineno}"


def faults_of_class(node):
    """L5: a class's base and body."""
    if len(node.bases) > 1 or node.keywords or node.decorator_list:
        yield f"L5: line {node.lineno}"
    for k, part in enumerate(node.body):
        docstring = k == 0 and isinstance(part, ast.Expr)
        if not docstring and not isinstance(part, (ast.FunctionDef, ast.Pass)):
            yield f"L5: line {part.lineno}"


def faults_of_node(node, own_methods):
    """L6, L7, L20, L25, L27: one piece of syntax."""
    line = getattr(node, "lineno", 0)
    if not isinstance(node, SYNTAX) or isinstance(node, (ast.Div, ast.MatMult)):
        yield f"L6, L7: line {line}: {node.__class__.__name__}"
    if isinstance(node, ast.Assign) and (len(node.targets) > 1 or isinstance(node.targets[0], (ast.Tuple, ast.List))):
        yield f"L6: line {line}"
    if isinstance(node, (ast.For, ast.While)) and node.orelse or isinstance(node, ast.Try) and node.finalbody:
        yield f"L6: line {line}"
    if isinstance(node, ast.ListComp) and (len(node.generators) > 1 or len(node.generators[0].ifs) > 1):
        yield f"L7: line {line}"
    if isinstance(node, ast.Constant) and isinstance(node.value, (float, complex, bytes)):
        yield f"L7: line {line}"
    if isinstance(node, ast.Constant) and isinstance(node.value, str) and "%" in node.value:
        yield f"L27: line {line}"
    if isinstance(node, ast.Compare) and any(isinstance(op, (ast.Is, ast.IsNot)) for op in node.ops):
        if not any(isinstance(side, ast.Constant) for side in [node.left] + node.comparators):
            yield f"L20: line {line}"
    if isinstance(node, ast.Call) and isinstance(node.func, ast.Attribute):
        if node.func.attr not in OWN_METHODS | own_methods | {"__init__"}:
            yield f"L25: line {line}: {node.func.attr}"


def faults_of_names(tree):
    """L8, L12, L15, L17: the names that are read and given."""
    taken = {alias.name for node in ast.walk(tree) if isinstance(node, ast.ImportFrom) for alias in node.names}
    taken |= {node.name for node in ast.walk(tree) if isinstance(node, ast.ClassDef)} | set(dir(builtins))
    for node in ast.walk(tree):
        name = given_name(node)
        if name is not None and name in taken:
            yield f"L15: line {node.lineno}: {name}"
        for word in filter(None, (name, getattr(node, "attr", None), getattr(node, "name", None))):
            if word in BARRED_NAMES or word.startswith("_") and word not in WRITTEN_METHODS:
                yield f"L12, L17: line {getattr(node, 'lineno', 0)}: {word}"
        if isinstance(node, ast.Name) and isinstance(node.ctx, ast.Load):
            if node.id in BARRED_NAMES or node.id in dir(builtins) and node.id not in OWN_NAMES:
                yield f"L8: line {node.lineno}: {node.id}"


def faults_of_places(tree):
    """L18, L22, L23, L24: calls and names that may stand in some places alone."""
    holder = {part: node for node in ast.walk(tree) for part in ast.iter_child_nodes(node)}
    classes = {node.name for node in ast.walk(tree) if isinstance(node, ast.ClassDef)}
    classes |= {alias.name for node in ast.walk(tree) if isinstance(node, ast.ImportFrom) for alias in node.names
                if re.match("[A-Z][a-z]", alias.name)}
    for node in ast.walk(tree):
        around = holder.get(node)
        if walked_alone(node) and not walked_there(node, around):
            yield f"L23: line {node.lineno}"
        if isinstance(node, ast.Set) or called_name(node) in ("set", "frozenset") and not set_there(around):
            yield f"L24: line {node.lineno}"
        if isinstance(node, ast.Name) and isinstance(node.ctx, ast.Load):
            called = isinstance(around, ast.Call) and around.func is node
            if node.id in classes and not called and not isinstance(around, (ast.ClassDef, ast.ExceptHandler)):
                if not called_name(around) == "isinstance" and not isinstance(around, ast.Attribute):
                    yield f"L18: line {node.lineno}: {node.id}"
            keyed = isinstance(around, (ast.keyword, ast.ExceptHandler, ast.ClassDef))
            checked = called_name(around) == "isinstance" or isinstance(around, ast.Tuple)
            if node.id in OWN_NAMES and not called and not keyed and not checked:
                yield f"L22: line {node.lineno}: {node.id}"


def called_name(node):
    """The name that a call calls, or None."""
    if isinstance(node, ast.Call) and isinstance(node.func, ast.Name):
        return node.func.id
    return None


def walked_alone(node):
    if called_name(node) in ("zip", "enumerate", "reversed", "range"):
        return True
    return isinstance(node, ast.Call) and isinstance(node.func, ast.Attribute) and node.func.attr in (
        "items", "keys", "values")


def walked_there(node, around):
    if isinstance(around, (ast.For, ast.comprehension)):
        return around.iter is node
    if called_name(around) in ("list", "tuple", "dict", "sorted", "sum", "any", "all", "enumerate"):
        return around.args[0] is node
    if called_name(around) == "zip":
        return True
    if called_name(around) in ("min", "max"):
        return around.args == [node]
    return (isinstance(around, ast.Call) and isinstance(around.func, ast.Attribute) and around.func.attr == "join"
            and isinstance(around.func.value, ast.Constant))


def set_there(around):
    if called_name(around) in ("sorted", "len"):
        return not around.keywords
    return isinstance(around, ast.Compare) or isinstance(around, ast.BinOp)


def faults_of_shared(tree):
    """L15: a list or dict of a file's top is only read."""
    shared = {node.targets[0].id for node in tree.body
              if isinstance(node, ast.Assign) and isinstance(node.value, (ast.List, ast.Dict))}
    for node in ast.walk(tree):
        if isinstance(node, ast.Subscript) and isinstance(node.ctx, ast.Store):
            if isinstance(node.value, ast.Name) and node.value.id in shared:
                yield f"L15: line {node.lineno}"
        if isinstance(node, (ast.Return, ast.Assign)) and isinstance(node.value, ast.Name) and node.value.id in shared:
            yield f"L15: line {node.lineno}"
        if isinstance(node, ast.Attribute) and isinstance(node.value, ast.Name) and node.value.id in shared:
            if node.attr not in ("get", "items", "keys", "values", "index", "count", "copy"):
                yield f"L15: line {node.lineno}"


CHANGES = set("append clear extend insert pop remove reverse setdefault update add discard".split())


def faults_of_loops(tree):
    """L23: what a loop walks is not changed in it."""
    for node in ast.walk(tree):
        if not isinstance(node, ast.For):
            continue
        walked = {ast.unparse(part) for part in ast.walk(node.iter) if isinstance(part, (ast.Name, ast.Attribute))}
        for part in [inner for line in node.body for inner in ast.walk(line)]:
            if isinstance(part, ast.Subscript) and isinstance(part.ctx, ast.Store):
                if ast.unparse(part.value) in walked:
                    yield f"L23: line {part.lineno}"
            if isinstance(part, ast.Call) and isinstance(part.func, ast.Attribute) and part.func.attr in CHANGES:
                if ast.unparse(part.func.value) in walked:
                    yield f"L23: line {part.lineno}"


def faults_of_handlers(tree):
    """L19: which errors are taken, and that each is made where it is raised."""
    for node in ast.walk(tree):
        if isinstance(node, ast.Raise) and not isinstance(node.exc, ast.Call):
            yield f"L19: line {node.lineno}"
        if isinstance(node, ast.ExceptHandler):
            if node.type is None or getattr(node.type, "id", "") in ("Exception", "TypeError"):
                yield f"L19: line {node.lineno}"


def given_name(node):
    """The name of a parameter or of a name that is given a value, or None."""
    if isinstance(node, ast.arg):
        return node.arg
    if isinstance(node, ast.Name) and isinstance(node.ctx, ast.Store):
        return node.id
    return None


def methods_of(trees):
    return {part.name for tree in trees for node in ast.walk(tree) if isinstance(node, ast.ClassDef)
            for part in node.body if isinstance(part, ast.FunctionDef)}


def values_of(trees):
    return {node.attr for tree in trees for node in ast.walk(tree)
            if isinstance(node, ast.Attribute) and isinstance(node.ctx, ast.Store)}


def faults_of(text, own_methods):
    tree = ast.parse(text)
    faults = list(faults_of_text(text))
    for of_tree in (faults_of_top, faults_of_names, faults_of_places, faults_of_shared, faults_of_loops,
                    faults_of_handlers):
        faults.extend(of_tree(tree))
    for node in ast.walk(tree):
        faults.extend(faults_of_node(node, own_methods))
        if isinstance(node, ast.FunctionDef):
            faults.extend(faults_of_def(node))
        if isinstance(node, ast.ClassDef):
            faults.extend(faults_of_class(node))
    return faults


class TestForm(unittest.TestCase):
    def setUp(self):
        self.texts = {path.stem: path.read_text(encoding="ascii") for path in sorted(PACKAGE.rglob("*.py"))}
        self.trees = {name: ast.parse(text) for name, text in self.texts.items()}

    def test_the_folder_holds_plain_python_files_alone(self):
        for path in PACKAGE.rglob("*"):
            if "__pycache__" not in path.parts:
                self.assertRegex(path.name, r"^(__init__|__main__|[a-z][a-z0-9_]*)\.py$")
                self.assertNotIn(path.stem, dir(builtins))
        self.assertIn("__init__", self.texts)

    def test_each_file_keeps_to_the_rules(self):
        own_methods = methods_of(self.trees.values())
        for name, text in self.texts.items():
            self.assertEqual(faults_of(text, own_methods), [], name)

    def test_no_name_is_a_method_and_a_value(self):
        self.assertEqual(methods_of(self.trees.values()) & values_of(self.trees.values()), set())

    def test_own_methods_and_values_are_called_like_none_of_pythons_own(self):
        owned = {name for kind in (str, int, list, dict, set, bytes) for name in dir(kind)}
        self.assertEqual((methods_of(self.trees.values()) - WRITTEN_METHODS) & owned - OWN_METHODS - {"add", "discard"},
                         set())
        free = set("count index title find get join lower upper split strip copy add".split())
        self.assertEqual((values_of(self.trees.values()) & owned) - free, set())

    def test_names_are_drawn_from_the_file_that_defines_them_and_never_in_a_round(self):
        draws = {name: [node for node in tree.body if isinstance(node, ast.ImportFrom)]
                 for name, tree in self.trees.items()}
        for nodes in draws.values():
            for node in nodes:
                source = self.trees[node.module.split(".")[-1]]
                defined = {part.name for part in source.body if isinstance(part, (ast.FunctionDef, ast.ClassDef))}
                defined |= {part.targets[0].id for part in source.body if isinstance(part, ast.Assign)}
                self.assertLessEqual({alias.name for alias in node.names}, defined)
        left = {name: {node.module.split(".")[-1] for node in nodes} for name, nodes in draws.items()}
        while left:
            free = [name for name, drawn in left.items() if not drawn & set(left)]
            self.assertTrue(free, left)
            for name in free:
                left.pop(name)


class TestFaultsAreSeen(unittest.TestCase):
    def test_a_plain_file_has_none(self):
        self.assertEqual(faults_of('"""Words."""\n\nMOST = 3\n\n\ndef one(k):\n    return k + MOST\n', set()), [])

    def test_each_fault(self):
        for rule, text in (("L10", "a = 1" + " " * 120), ("L14", "a = '\u00e9'"), ("L14", "if a:\n\tb()"),
                           ("L17", "# the type"), ("L2", "from .a import b"), ("L2", "from re import sub"),
                           ("L3", "import re"), ("L3", "a = len('b')"), ("L3", "print(1)"),
                           ("L4", "def a(*b):\n    return b"), ("L10", "def a():\n" + "    b()\n" * 40),
                           ("L5", "class A:\n    b = 1"), ("L5", "class A(B, C):\n    pass"),
                           ("L6", "def a():\n    with b:\n        pass"), ("L6", "def a(b):\n    c, d = b"),
                           ("L6", "def a(b):\n    c = d = b"), ("L7", "def a(b):\n    return b / 2"),
                           ("L7", "def a(b):\n    return {c for c in b}"),
                           ("L7", "def a(b):\n    return [d for c in b for d in c]"),
                           ("L8", "def a(b):\n    return map(b, b)"), ("L12", "def _a():\n    pass"),
                           ("L17", "def a(b):\n    b.register(1)"), ("L15", "def a(hash):\n    pass"),
                           ("L15", "def a():\n    next = 1"), ("L20", "def a(b, c):\n    return b is c"),
                           ("L25", "def a(b):\n    b.sort()"), ("L27", "a = '%'"),
                           ("L15", "A = [1]\n\n\ndef a():\n    A.append(2)"),
                           ("L15", "A = [1]\n\n\ndef a():\n    return A"),
                           ("L15", "A = [1]\n\n\ndef a():\n    A[0] = 2"),
                           ("L18", "class A:\n    pass\n\n\ndef a(b):\n    b(A)"),
                           ("L19", "def a(b):\n    raise b"),
                           ("L19", "def a():\n    try:\n        b()\n    except:\n        c()"),
                           ("L22", "def a(b):\n    return b(len)"),
                           ("L23", "def a(b):\n    c = range(b)"), ("L23", "def a(b):\n    return b.items()"),
                           ("L23", "def a(b, c):\n    return max(c, range(b))"),
                           ("L23", "def a(b):\n    return b(zip(b, b))"), ("L24", "def a(b):\n    c = set(b)"),
                           ("L24", "def a(b):\n    for c in set(b):\n        c()"),
                           ("L23", "def a(b):\n    for c in b:\n        b.append(c)"),
                           ("L23", "def a(b):\n    for c, d in enumerate(b):\n        b[c] = d"),
                           ("L24", "def a(b):\n    return sorted(set(b), key=len)")):
            faults = faults_of(text, set())
            self.assertTrue(any(rule in fault for fault in faults), (rule, text, faults))


if __name__ == "__main__":
    unittest.main()
