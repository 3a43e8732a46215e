"""Holds the package's files to those rules of the language (L1 to L28) that can be seen in a file alone."""

import ast
import builtins
import pathlib
import re
import unittest

PACKAGE = pathlib.Path(__file__).resolve().parent.parent / "shapethin"

OWN_NAMES = set("""len range enumerate zip min max sum abs sorted reversed int str bool list tuple dict set frozenset
    isinstance ord repr any all divmod Exception ValueError TypeError KeyError IndexError LookupError
    ZeroDivisionError ArithmeticError OverflowError RuntimeError NotImplementedError AttributeError
    StopIteration""".split())

METHODS = set("""append clear copy count endswith extend find get index insert isalnum isalpha isdigit islower isspace
    isupper items join keys ljust lower lstrip partition pop remove replace reverse rfind rjust rpartition rsplit
    rstrip setdefault split splitlines startswith strip update upper values zfill bit_length""".split())

UNUSED_WORDS = set("""type typing typing_extensions enum Enum IntEnum StrEnum Flag IntFlag Generic Protocol ABC ABCMeta
    namedtuple NamedTuple TypedDict TYPE_CHECKING abstractmethod""".split())

UNUSED_PARTS = ("dataclass", "overload", "contextmanager")

UNUSED_NAMES = set("""register mro elements open input version_info with_traceback add_note chr format
    format_map sys os super print""".split())

KEYWORDS = {"sorted": ("key", "reverse"), "min": ("key", "default"), "max": ("key", "default"), "sum": ("start",),
            "enumerate": ("start",), "zip": ("strict",)}

PLAIN = (ast.Constant, ast.Tuple, ast.List, ast.Dict, ast.UnaryOp, ast.USub, ast.Name, ast.expr_context)

SPECIAL_METHODS = {"__init__", "__eq__", "__repr__", "__str__", "__len__"}

NODES = (
    ast.Module, ast.FunctionDef, ast.ClassDef, ast.ImportFrom, ast.alias, ast.arguments, ast.arg, ast.Lambda,
    ast.Assign, ast.AugAssign, ast.If, ast.While, ast.For, ast.Return, ast.Break, ast.Continue, ast.Pass, ast.Raise,
    ast.Try, ast.ExceptHandler, ast.Expr, ast.Call, ast.keyword, ast.Attribute, ast.Subscript, ast.Slice, ast.Name,
    ast.Constant, ast.List, ast.Tuple, ast.Dict, ast.BinOp, ast.UnaryOp, ast.BoolOp, ast.Compare, ast.IfExp,
    ast.ListComp, ast.comprehension, ast.JoinedStr, ast.FormattedValue, ast.expr_context, ast.operator, ast.unaryop,
    ast.boolop, ast.cmpop)


def sources():
    return sorted(PACKAGE.rglob("*.py"))


def faults_of_text(text):
    for number, line in enumerate(text.split("\n"), start=1):
        if len(line) > 120:
            yield number, "L10 a line of more than 120 signs"
        if any(not " " <= sign <= "~" for sign in line):
            yield number, "L14 a sign that is not from the blank to the tilde"
        for word in re.findall(r"\w+", line):
            if word in UNUSED_WORDS or any(part in word for part in UNUSED_PARTS):
                yield number, f"L17 the word {word}"
    if text.count("\n") > 400:
        yield 400, "L10 a file of more than 400 lines"


def bound_names(node):
    if isinstance(node, (ast.FunctionDef, ast.ClassDef)):
        return [node.name]
    if isinstance(node, ast.arg):
        return [node.arg]
    if isinstance(node, ast.Name) and isinstance(node.ctx, ast.Store):
        return [node.id]
    return []


def faults_of_names(node, methods):
    for name in bound_names(node):
        if name.startswith("_") and name not in SPECIAL_METHODS:
            yield "L12 a name that begins with an underscore"
        if node not in methods and hasattr(builtins, name):
            yield f"L15 {name} is a name of Python's own"
    if isinstance(node, ast.Name):
        if node.id in UNUSED_NAMES or hasattr(builtins, node.id) and node.id not in OWN_NAMES:
            yield f"L8 the name {node.id}"
    if isinstance(node, ast.Attribute) and node.attr in UNUSED_NAMES:
        yield f"L17 the name {node.attr}"


def own_methods(trees):
    classes = [node for tree in trees for node in ast.walk(tree) if isinstance(node, ast.ClassDef)]
    return {part.name for node in classes for part in node.body if isinstance(part, ast.FunctionDef)}


def own_values(trees):
    return {node.attr for tree in trees for node in ast.walk(tree)
            if isinstance(node, ast.Attribute) and isinstance(node.ctx, ast.Store)}


def faults_of_forms(node):
    if not isinstance(node, NODES):
        yield f"L6 or L7 {type(node).__name__}"
    if isinstance(node, ast.FunctionDef):
        if node.end_lineno - node.lineno >= 40:
            yield "L10 a function of more than 40 lines"
        if node.decorator_list or node.args.vararg or node.args.kwarg or node.args.kwonlyargs:
            yield "L4 a decorator or a starred parameter"
    if isinstance(node, ast.ClassDef) and (node.decorator_list or len(node.bases) > 1 or node.keywords):
        yield "L5 a decorator or more than one base"
    if isinstance(node, ast.ImportFrom) and (node.level or not node.module.startswith("shapethin.")):
        yield "L2 an import from outside the package"
    if isinstance(node, (ast.For, ast.While)) and node.orelse or isinstance(node, ast.Try) and node.finalbody:
        yield "L6 an else behind a loop, or a finally"
    if isinstance(node, ast.Assign) and (len(node.targets) > 1 or isinstance(node.targets[0], (ast.Tuple, ast.List))):
        yield "L6 more than one target"
    if isinstance(node, ast.ListComp) and (len(node.generators) > 1 or len(node.generators[0].ifs) > 1):
        yield "L7 a comprehension with more than one for or if"
    if isinstance(node, (ast.Div, ast.MatMult)) or isinstance(node, ast.Constant) and type(node.value) in (
            float, bytes, complex):
        yield "L7 a division or a value that is no whole number"
    if isinstance(node, ast.Compare) and any(isinstance(op, (ast.Is, ast.IsNot)) for op in node.ops):
        if not all(isinstance(side, ast.Constant) and side.value in (None, True, False) for side in node.comparators):
            yield "L20 is beside something else than None, True, False"
    if isinstance(node, ast.ExceptHandler):
        taken = node.type.elts if isinstance(node.type, ast.Tuple) else [node.type]
        if any(not isinstance(name, ast.Name) or name.id in ("Exception", "TypeError") for name in taken):
            yield "L19 an except of no named class, of Exception or of TypeError"
    if isinstance(node, ast.Constant) and isinstance(node.value, str) and "%" in node.value:
        yield "L27 a per cent sign within a text"


def faults_of_calls(node, own):
    if isinstance(node, ast.Call) and isinstance(node.func, ast.Attribute) and node.func.attr not in METHODS | own:
        yield f"L25 the method {node.func.attr}"


def faults_of_classes(node):
    if isinstance(node, ast.ClassDef):
        names = [part.name for part in node.body if isinstance(part, ast.FunctionDef)]
        if len(names) != len(set(names)):
            yield "L18 a method that stands twice"
        if any(not isinstance(part, (ast.FunctionDef, ast.Pass)) for part in node.body):
            yield "L5 something else than methods in a class"
    if isinstance(node, ast.FunctionDef) and node.name == "__init__":
        if any(isinstance(part, ast.Return) and part.value is not None for part in ast.walk(node)):
            yield "L28 an __init__ that gives back something"


def faults_of_tree(tree, own=frozenset()):
    methods = [part for node in ast.walk(tree) if isinstance(node, ast.ClassDef) for part in node.body]
    for node in ast.walk(tree):
        for fault in (list(faults_of_forms(node)) + list(faults_of_calls(node, own)) + list(faults_of_classes(node))
                      + list(faults_of_names(node, methods))):
            yield getattr(node, "lineno", 0), fault
    yield from faults_of_walks(tree)
    yield from faults_of_top(tree)
    tops = [name for node in tree.body for name in bound_names(node)]
    tops += [target.id for node in tree.body if isinstance(node, ast.Assign) for target in node.targets]
    if len(tops) != len(set(tops)):
        yield 0, "L15 a name bound twice at the file's top"
    taken = {node.name for node in tree.body if isinstance(node, ast.ClassDef)}
    taken |= {name.name for node in tree.body if isinstance(node, ast.ImportFrom) for name in node.names}
    for node in ast.walk(tree):
        if isinstance(node, (ast.arg, ast.Name)) and taken & set(bound_names(node)):
            yield node.lineno, "L15 a parameter or local called like a class or an import"


def is_call_of(node, names):
    return isinstance(node, ast.Call) and isinstance(node.func, ast.Name) and node.func.id in names


def is_first_in(node, above, names):
    return is_call_of(above, names) and above.args[:1] == [node]


def is_walked(node):
    """Whether it is something that is to be walked on the spot."""
    views = isinstance(node, ast.Call) and isinstance(node.func, ast.Attribute) and node.func.attr in (
        "items", "keys", "values")
    return views or is_call_of(node, ("zip", "enumerate", "reversed", "range"))


def is_walked_at_once(node, above):
    if isinstance(above, (ast.For, ast.comprehension)):
        return above.iter is node
    if is_call_of(above, ("min", "max")):
        return above.args == [node]
    of_written_text = isinstance(above, ast.Call) and isinstance(above.func, ast.Attribute) and (
        above.func.attr == "join" and isinstance(above.func.value, ast.Constant))
    return of_written_text or is_first_in(
        node, above, ("list", "tuple", "dict", "sorted", "sum", "any", "all", "enumerate", "zip"))


def is_set_on_the_spot(node, above, over):
    while isinstance(above, ast.BinOp):
        node, above = above, over[above]
    return isinstance(above, ast.Compare) or is_first_in(node, above, ("sorted", "len")) and above.keywords == []


def faults_of_walks(tree):
    over = {part: node for node in ast.walk(tree) for part in ast.iter_child_nodes(node)}
    for node in ast.walk(tree):
        if is_walked(node) and not is_walked_at_once(node, over[node]):
            yield node.lineno, "L23 something that is not walked on the spot"
        if is_call_of(node, ("set", "frozenset")) and not is_set_on_the_spot(node, over[node], over):
            yield node.lineno, "L24 a set that is kept or walked"
        if isinstance(node, ast.Call) and node.keywords:
            own = KEYWORDS.get(node.func.id, ()) if is_call_of(node, OWN_NAMES) else None
            if isinstance(node.func, ast.Attribute) and node.func.attr in METHODS:
                own = ()
            if own is not None and any(keyword.arg not in own for keyword in node.keywords):
                yield node.lineno, "L22 a keyword"


def faults_of_top(tree):
    functions = [node.name for node in tree.body if isinstance(node, ast.FunctionDef)]
    over = {part: node for node in ast.walk(tree) for part in ast.iter_child_nodes(node)}
    for top in [node for node in tree.body if isinstance(node, ast.Assign)]:
        for node in ast.walk(top.value):
            if isinstance(node, ast.Name) and node.id not in functions or not isinstance(node, PLAIN):
                yield top.lineno, "L3 no plain value"
        if isinstance(top.value, (ast.List, ast.Dict)):
            for node in ast.walk(tree):
                if isinstance(node, ast.Name) and node.id == top.targets[0].id and not is_only_read(node, over):
                    yield node.lineno, "L15 a list or dict of the file's top that is not only read"


def is_only_read(node, over):
    above = over[node]
    if isinstance(above, ast.Subscript):
        return above.value is node and isinstance(above.ctx, ast.Load)
    if isinstance(above, ast.Attribute):
        return above.attr in ("get", "items", "keys", "values", "index", "count")
    if isinstance(above, (ast.Compare, ast.For, ast.comprehension)):
        return True
    return isinstance(node.ctx, ast.Store) or is_call_of(above, ("len", "list", "dict", "sorted"))


def names_of_top(tree):
    return {name for node in tree.body for name in bound_names(node)} | {
        target.id for node in tree.body if isinstance(node, ast.Assign) for target in node.targets}


def drawn_from(trees):
    """For each file the files it draws from, in however many steps."""
    steps = {name: {node.module.partition(".")[2] for node in tree.body if isinstance(node, ast.ImportFrom)}
             for name, tree in trees.items()}
    for repeated in trees:
        for name, others in steps.items():
            steps[name] = others.union(*[steps[other] for other in others])
    return steps


class Language(unittest.TestCase):
    def test_files(self):
        found = [path.name for path in PACKAGE.rglob("*") if path.is_file() and "__pycache__" not in path.parts]
        self.assertIn("__init__.py", found)
        for name in found:
            self.assertRegex(name, r"^([a-z][a-z0-9_]*|__init__)\.py$")
            self.assertNotRegex(name, r"^(tests?|testing|test_.*|site|conftest|sitecustomize|usercustomize)\.py$")
            self.assertFalse(name != "__init__.py" and hasattr(builtins, name[:-3]), name)

    def test_no_file_leaves_the_language(self):
        texts = {path.name: path.read_text(encoding="utf-8") for path in sources()}
        own = own_methods([ast.parse(text) for text in texts.values()])
        faults = []
        for name, text in texts.items():
            for line, fault in list(faults_of_text(text)) + list(faults_of_tree(ast.parse(text), own)):
                faults.append(f"{name}:{line}: {fault}")
        self.assertEqual(faults, [])

    def test_no_name_is_both_a_method_and_a_value(self):
        trees = [ast.parse(path.read_text(encoding="utf-8")) for path in sources()]
        self.assertEqual(own_methods(trees) & own_values(trees), set())
        own = (own_methods(trees) | own_values(trees)) - SPECIAL_METHODS
        for kind in (str, int, list, tuple, dict, set, bytes):
            self.assertEqual(own & set(dir(kind)), set(), kind)

    def test_names_are_drawn_from_the_file_that_defines_them_and_never_in_a_ring(self):
        trees = {path.stem: ast.parse(path.read_text(encoding="utf-8")) for path in sources()}
        for name, tree in trees.items():
            for node in [node for node in tree.body if isinstance(node, ast.ImportFrom)]:
                taken = {part.name for part in node.names}
                self.assertLessEqual(taken, names_of_top(trees[node.module.partition(".")[2]]), name)
        for name, others in drawn_from(trees).items():
            self.assertNotIn(name, others)

    def test_faults_are_seen(self):
        wrong = ["x = 1 / 2", "x = 1.5", "import os", "from os import path", "x = {1, 2}",
                 "x = [y for z in a for y in z]",
                 "def f(*a):\n    pass", "def f(a):\n    a.sort()", "a = b = 1", "a = 1\na = 2",
                 "def f(min):\n    pass",
                 "with a:\n    pass", "x = _y = 2", "def f(a):\n    b, c = a", "x = 'a%b'",
                 "def f(a):\n    try:\n        a()\n    except Exception:\n        pass", "class A:\n    x = 1",
                 "class A:\n    def f(self):\n        pass\n    def f(self):\n        pass",
                 "class A:\n    def __init__(self):\n        return None", "class A:\n    pass\ndef f(A):\n    pass",
                 "from shapethin.rows import row_of\ndef f(a):\n    row_of = a", "def f(a):\n    return a is 3",
                 "x = open(3)", "_x = 1", "def f(a):\n    return range(a)", "def f(a):\n    b = zip(a, a)",
                 "def f(a):\n    return list(reversed(range(a)))", "def f(a):\n    b = a.items()",
                 "def f(a):\n    return set(a)", "def f(a):\n    for b in set(a):\n        pass",
                 "def f(a):\n    return sorted(set(a), reverse=True)", "def f(a):\n    return len(list(set(a)))",
                 "def f(a):\n    return a.split(sep=' ')", "def f(a):\n    return int(a, base=2)", "x = 1 + 2",
                 "x = len",
                 "x = (1, 2)\ny = (x, 3)", "x = [1]\ndef f(a):\n    x.append(a)", "x = {}\ndef f(a):\n    x[a] = 1",
                 "x = [1]\ndef f(a):\n    return x"]
        right = ["def f(a):\n    return [b for b in range(a)]", "def f(a):\n    return dict(enumerate(a, start=2))",
                 "def f(a):\n    return sorted(set(a))", "def f(a, b):\n    return b in set(a)",
                 "def f(a, b):\n    return len(set(a) | set(b))", "def f(a):\n    return ', '.join(a.keys())",
                 "x = {'a': (1, -2)}\ndef f(a):\n    return x[a] if a in x else x.get(a)",
                 "def g(a):\n    return a\nx = [g]\ndef f(a):\n    return x[0](a)"]
        for text in right:
            with self.subTest(text=text):
                self.assertEqual(list(faults_of_tree(ast.parse(text))), [])
        for text in wrong:
            with self.subTest(text=text):
                self.assertNotEqual(list(faults_of_tree(ast.parse(text))), [])
        ring = {"a": "from shapethin.b import f", "b": "from shapethin.c import f", "c": "from shapethin.a import f"}
        self.assertIn("a", drawn_from({name: ast.parse(text) for name, text in ring.items()})["a"])
        for text in ["x = 'type'", "# an enum", "\tx = 1", "x = 1" + " " * 120, "# caf\u00e9", "my_dataclass_x = 1"]:
            with self.subTest(text=text):
                self.assertNotEqual(list(faults_of_text(text)), [])


if __name__ == "__main__":
    unittest.main()
