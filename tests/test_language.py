"""The rules of LANGUAGE.md that can be looked at without running anything."""

import ast
import builtins
import pathlib
import re
import unittest

FOLDER = pathlib.Path(__file__).resolve().parent.parent / "drawnweb"
FILES = sorted(path for path in FOLDER.iterdir() if path.name != "__pycache__")
BUILTINS = set(
    "len range enumerate zip min max sum abs sorted reversed int str bool bytes list tuple dict set frozenset isinstance "
    "ord repr any all divmod Exception ValueError TypeError KeyError IndexError LookupError ZeroDivisionError "
    "ArithmeticError OverflowError RuntimeError NotImplementedError AttributeError StopIteration".split())
METHODS = set(
    "append clear copy count endswith extend find get index insert isalnum isalpha isdigit islower isspace isupper items "
    "join keys ljust lower lstrip partition pop remove replace reverse rfind rjust rpartition rsplit rstrip setdefault "
    "split splitlines startswith strip update upper values zfill bit_length add discard sort".split())
BARRED_WORDS = re.compile(
    r"\b(type|typing|typing_extensions|enum|Enum|IntEnum|StrEnum|Flag|IntFlag|Generic|Protocol|ABC|ABCMeta|namedtuple|"
    r"NamedTuple|TypedDict|TYPE_CHECKING|abstractmethod)\b|dataclass|overload|contextmanager")
BARRED_NAMES = set(
    "register mro elements open input version_info with_traceback add_note attrgetter breakpoint builtins compile "
    "copyright credits delattr dir eval exec exit gc getattr globals hasattr help id importlib license locals "
    "methodcaller os quit setattr super type vars sys format format_map".split())
BARRED_NODES = (
    ast.With, ast.AsyncWith, ast.Match, ast.Global, ast.Nonlocal, ast.Yield, ast.YieldFrom, ast.Await, ast.AsyncFor,
    ast.AsyncFunctionDef, ast.GeneratorExp, ast.NamedExpr, ast.Div, ast.MatMult, ast.Import)
DUNDERS = ("__init__", "__eq__", "__repr__", "__str__", "__len__")
AT_ONCE = ("zip", "enumerate", "reversed", "range", "items", "keys", "values")
TAKES_AT_ONCE = ("list", "tuple", "dict", "sorted", "sum", "any", "all", "enumerate", "zip", "bytes", "min", "max", "join",
                 "len", "reversed")


def read(path):
    tree = ast.parse(path.read_text())
    for node in ast.walk(tree):
        for child in ast.iter_child_nodes(node):
            child.parent = node
    return tree


TREES = {path: read(path) for path in FILES if path.suffix == ".py"}


def called_name(node):
    if not isinstance(node, ast.Call):
        return None
    return node.func.id if isinstance(node.func, ast.Name) else getattr(node.func, "attr", None)


def bound_names(tree):
    """Each name that is bound anywhere in a file, and where."""
    for node in ast.walk(tree):
        if isinstance(node, ast.Name) and isinstance(node.ctx, (ast.Store, ast.Del)):
            yield node.id, node
        elif isinstance(node, (ast.FunctionDef, ast.ClassDef)):
            yield node.name, node
        elif isinstance(node, ast.arg):
            yield node.arg, node
        elif isinstance(node, ast.ExceptHandler) and node.name:
            yield node.name, node


def top_names(tree):
    """The names that a file defines at module level, imports left out."""
    told = [node.name for node in tree.body if isinstance(node, (ast.FunctionDef, ast.ClassDef))]
    return told + [node.targets[0].id for node in tree.body if isinstance(node, ast.Assign)]


def imported(tree):
    return [(node, alias) for node in tree.body if isinstance(node, ast.ImportFrom) for alias in node.names]


class Language(unittest.TestCase):
    def test_files(self):
        for path in FILES:
            self.assertRegex(path.name, r"^([a-z][a-z0-9_]*|__init__|__main__)\.py$")
            text = path.read_text(encoding="ascii")
            self.assertRegex(text, r"\A[\n -~]*\Z")
            self.assertNotIn("\t", text)
            lines = text.split("\n")
            self.assertLessEqual(len(lines), 400)
            self.assertLessEqual(max(map(len, lines)), 120, path.name)
            self.assertIsNone(BARRED_WORDS.search(text), path.name)
        self.assertLessEqual(len(FILES), 100)

    def test_module_level(self):
        for path, tree in TREES.items():
            for at, node in enumerate(tree.body):
                doc = at == 0 and isinstance(node, ast.Expr) and isinstance(node.value, ast.Constant)
                self.assertTrue(doc or isinstance(node, (ast.ImportFrom, ast.FunctionDef, ast.ClassDef, ast.Assign)), path.name)
                if isinstance(node, ast.Assign):
                    self.assertFalse([part for part in ast.walk(node) if isinstance(part, (ast.Call, ast.ListComp))])
            names = top_names(tree) + [alias.asname or alias.name for _, alias in imported(tree)]
            self.assertEqual(len(names), len(set(names)), path.name)

    def test_imports(self):
        for path, tree in TREES.items():
            every = [node for node in ast.walk(tree) if isinstance(node, ast.ImportFrom)]
            self.assertEqual(every, [node for node in tree.body if isinstance(node, ast.ImportFrom)])
            for node, alias in imported(tree):
                self.assertEqual(node.level, 0)
                package, _, module = node.module.partition(".")
                self.assertEqual(package, "drawnweb")
                self.assertIn(alias.name, top_names(TREES[FOLDER / f"{module}.py"]), path.name)

    def test_no_ring_of_imports(self):
        uses = {path.stem: {node.module.partition(".")[2] for node, _ in imported(tree)} for path, tree in TREES.items()}
        while uses:
            ready = [name for name in uses if not uses[name] & set(uses)]
            self.assertTrue(ready, uses)
            for name in ready:
                del uses[name]

    def test_statements_and_expressions(self):
        for path, tree in TREES.items():
            for node in ast.walk(tree):
                where = (path.name, getattr(node, "lineno", 0))
                self.assertNotIsInstance(node, BARRED_NODES, where)
                if isinstance(node, ast.Constant):
                    self.assertNotIsInstance(node.value, (float, complex), where)
                    self.assertFalse(isinstance(node.value, str) and "%" in node.value, where)
                if isinstance(node, (ast.For, ast.While)):
                    self.assertEqual(node.orelse, [], where)
                if isinstance(node, ast.BinOp) and isinstance(node.op, ast.Pow):
                    self.assertIsInstance(node.right, ast.Constant, where)
                if isinstance(node, ast.Starred):
                    self.assertIsInstance(node.ctx, ast.Store, where)
                if isinstance(node, ast.Compare) and any(isinstance(op, (ast.Is, ast.IsNot)) for op in node.ops):
                    self.assertIn(getattr(node.comparators[0], "value", 0), (None, True, False), where)

    def test_functions_and_classes(self):
        for path, tree in TREES.items():
            for node in ast.walk(tree):
                where = (path.name, getattr(node, "lineno", 0))
                if isinstance(node, (ast.FunctionDef, ast.ClassDef)):
                    self.assertEqual(node.decorator_list, [], where)
                if isinstance(node, ast.FunctionDef):
                    self.assertLessEqual(node.end_lineno - node.lineno + 1, 40, where)
                    self.assertIsNotNone(ast.get_docstring(node) or node.name.startswith("__") or None, where)
                    args = node.args
                    self.assertEqual((args.vararg, args.kwarg, args.posonlyargs), (None, None, []), where)
                if isinstance(node, ast.ClassDef):
                    self.assertLessEqual(len(node.bases), 1, where)
                    self.assertIsInstance(node.parent, ast.Module, where)
                    for part in node.body:
                        self.assertIsInstance(part, (ast.FunctionDef, ast.Expr), where)

    def test_names(self):
        for path, tree in TREES.items():
            shut = {alias.asname or alias.name for _, alias in imported(tree)}
            shut |= {node.name for node in tree.body if isinstance(node, ast.ClassDef)}
            for name, node in bound_names(tree):
                where = (path.name, node.lineno, name)
                self.assertTrue(name in DUNDERS or re.match(r"^[A-Za-z][A-Za-z0-9_]*$", name), where)
                self.assertNotIn(name, BARRED_NAMES, where)
                if not isinstance(node, ast.ClassDef) and not isinstance(getattr(node, "parent", None), ast.ClassDef):
                    self.assertFalse(hasattr(builtins, name), where)
                    self.assertNotIn(name, shut, where)
            known = {name for name, _ in bound_names(tree)} | shut | BUILTINS
            for node in ast.walk(tree):
                if isinstance(node, ast.Name):
                    self.assertIn(node.id, known, (path.name, node.lineno))

    def test_attributes(self):
        kept = {node.attr for tree in TREES.values() for node in ast.walk(tree)
                if isinstance(node, ast.Attribute) and isinstance(node.ctx, ast.Store)}
        methods = [part.name for tree in TREES.values() for node in tree.body if isinstance(node, ast.ClassDef)
                   for part in node.body if isinstance(part, ast.FunctionDef) and part.name != "__init__"]
        self.assertEqual(len(set(methods)), len(methods))
        self.assertEqual(kept & set(methods), set())
        for name in kept | set(methods):
            self.assertFalse([name for kind in (str, int, list, tuple, dict, set, bytes) if hasattr(kind, name)], name)
        own = kept | set(methods)
        for path, tree in TREES.items():
            for node in ast.walk(tree):
                if isinstance(node, ast.Attribute):
                    self.assertIn(node.attr, METHODS | own | {"__init__"}, (path.name, node.lineno))
                    self.assertNotIn(node.attr, BARRED_NAMES, (path.name, node.lineno))

    def test_iterated_at_once(self):
        for path, tree in TREES.items():
            for node in ast.walk(tree):
                if called_name(node) in AT_ONCE:
                    up = node.parent
                    looped = isinstance(up, (ast.For, ast.comprehension)) and up.iter is node
                    tested = isinstance(up, ast.Compare) and isinstance(up.ops[0], (ast.In, ast.NotIn))
                    self.assertTrue(looped or tested or called_name(up) in TAKES_AT_ONCE, (path.name, node.lineno))

    def test_sets(self):
        for path, tree in TREES.items():
            for node in ast.walk(tree):
                if isinstance(node, (ast.Set, ast.SetComp)) or called_name(node) in ("set", "frozenset"):
                    up = node.parent
                    kept = isinstance(up, ast.Assign) and isinstance(up.targets[0], ast.Name)
                    beside = isinstance(up, (ast.Compare, ast.BinOp))
                    self.assertTrue(kept or beside or called_name(up) in ("len", "sorted"), (path.name, node.lineno))


if __name__ == "__main__":
    unittest.main()
