"""Holds the package to those rules of ../shared/LANGUAGE.md that a plain look at the source can see."""

import ast
import builtins
import pathlib
import re
import unittest

PACKAGE = pathlib.Path(__file__).resolve().parent.parent / "leastloss"

OWN_NAMES = set(
    "len range enumerate zip min max sum abs sorted reversed int str bool list tuple dict set frozenset isinstance"
    " ord repr any all divmod Exception ValueError TypeError KeyError IndexError LookupError ZeroDivisionError"
    " ArithmeticError OverflowError RuntimeError NotImplementedError AttributeError StopIteration".split()
)
METHODS = set(
    "append clear copy count endswith extend find get index insert isalnum isalpha isdigit islower isspace isupper"
    " items join keys ljust lower lstrip partition pop remove replace reverse rfind rjust rpartition rsplit rstrip"
    " setdefault split splitlines startswith strip update upper values zfill bit_length".split()
)
NODES = set(
    "Module Expr Constant ImportFrom alias FunctionDef arguments arg Lambda ClassDef Assign AugAssign If While For"
    " Return Break Continue Pass Raise Try ExceptHandler Call Name Attribute Subscript Slice List Tuple Dict Set"
    " ListComp comprehension BinOp UnaryOp BoolOp Compare IfExp JoinedStr FormattedValue keyword Load Store"
    " Add Sub Mult FloorDiv Mod Pow BitAnd BitOr BitXor LShift RShift Invert USub UAdd Not And Or"
    " Eq NotEq Lt LtE Gt GtE Is IsNot In NotIn".split()
)
TOP_NODES = (ast.Expr, ast.ImportFrom, ast.FunctionDef, ast.ClassDef, ast.Assign)
WORDS_OUT = re.compile(
    r"\b(type|typing|typing_extensions|enum|Enum|IntEnum|StrEnum|Flag|IntFlag|Generic|Protocol|ABC|ABCMeta"
    r"|namedtuple|NamedTuple|TypedDict|TYPE_CHECKING|abstractmethod)\b|dataclass|overload|contextmanager"
)


def texts():
    return {path.stem: path.read_text(encoding="utf-8") for path in sorted(PACKAGE.glob("*.py"))}


def trees():
    return {stem: ast.parse(text) for stem, text in texts().items()}


def bound_at_top(tree):
    names = []
    for node in tree.body:
        if isinstance(node, (ast.FunctionDef, ast.ClassDef)):
            names.append(node.name)
        if isinstance(node, ast.Assign):
            names.append(node.targets[0].id)
    return names


def called(node):
    """The name or the method that is called, None for what is no call."""
    if not isinstance(node, ast.Call):
        return None
    return node.func.id if isinstance(node.func, ast.Name) else node.func.attr


def walked_in(node):
    """What a part of the source walks on the spot."""
    if isinstance(node, (ast.For, ast.comprehension)):
        return [node.iter]
    if called(node) == "zip":
        return node.args
    if called(node) in ("list", "tuple", "dict", "sorted", "sum", "any", "all", "enumerate", "join"):
        return node.args[:1]
    if called(node) in ("min", "max") and len(node.args) == 1:
        return node.args
    return []


def drawn_from(tree):
    return [node for node in tree.body if isinstance(node, ast.ImportFrom)]


class Form(unittest.TestCase):
    def test_files(self):
        lying = [path for path in PACKAGE.iterdir() if path.name != "__pycache__"]
        self.assertIn("__init__.py", [path.name for path in lying])
        for path in lying:
            self.assertRegex(path.name, r"\A[a-z0-9_]+\.py\Z")

    def test_size_and_signs(self):
        for stem, text in texts().items():
            with self.subTest(file=stem):
                self.assertRegex(text, r"\A[ -~\n]*\Z")
                self.assertLessEqual(len(text.splitlines()), 400)
                self.assertLessEqual(max(len(line) for line in text.splitlines()), 120)
                self.assertIsNone(WORDS_OUT.search(text))

    def test_nodes(self):
        for stem, tree in trees().items():
            for node in tree.body:
                self.assertIsInstance(node, TOP_NODES, stem)
            for node in ast.walk(tree):
                with self.subTest(file=stem, line=getattr(node, "lineno", None)):
                    self.node_is_plain(node)

    def node_is_plain(self, node):
        self.assertIn(type(node).__name__, NODES)
        if isinstance(node, ast.Constant):
            self.assertIsInstance(node.value, (int, str, type(None)))
        if isinstance(node, ast.Assign):
            self.assertEqual(len(node.targets), 1)
        if isinstance(node, ast.ListComp):
            self.assertEqual(len(node.generators), 1)
            self.assertLessEqual(len(node.generators[0].ifs), 1)
        if isinstance(node, (ast.For, ast.While)):
            self.assertEqual(node.orelse, [])
        if isinstance(node, ast.Try):
            self.assertEqual(node.finalbody, [])

    def test_functions(self):
        for stem, tree in trees().items():
            for node in ast.walk(tree):
                if isinstance(node, ast.FunctionDef):
                    with self.subTest(file=stem, function=node.name):
                        self.function_is_plain(node)

    def function_is_plain(self, node):
        self.assertLessEqual(node.end_lineno - node.lineno + 1, 40)
        self.assertEqual(node.decorator_list, [])
        self.assertIsNone(node.args.vararg)
        self.assertIsNone(node.args.kwarg)
        self.assertEqual(node.args.kwonlyargs, [])
        for arg in node.args.args:
            self.assertFalse(hasattr(builtins, arg.arg), arg.arg)

    def test_names(self):
        defined = set()
        for tree in trees().values():
            defined.update(node.name for node in ast.walk(tree) if isinstance(node, ast.FunctionDef))
        for stem, tree in trees().items():
            top = bound_at_top(tree)
            self.assertEqual(len(top), len(set(top)), stem)
            for node in ast.walk(tree):
                with self.subTest(file=stem, line=getattr(node, "lineno", None)):
                    self.name_is_plain(node, METHODS | defined)

    def name_is_plain(self, node, methods):
        if isinstance(node, ast.Name):
            self.assertFalse(node.id.startswith("_"), node.id)
            if hasattr(builtins, node.id):
                self.assertIn(node.id, OWN_NAMES)
                self.assertIsInstance(node.ctx, ast.Load)
        if isinstance(node, ast.Call) and isinstance(node.func, ast.Attribute):
            self.assertIn(node.func.attr, methods)

    def test_no_local_is_called_like_a_class_or_an_import(self):
        for stem, tree in trees().items():
            taken = {node.name for node in tree.body if isinstance(node, ast.ClassDef)}
            taken.update(alias.name for node in drawn_from(tree) for alias in node.names)
            for node in ast.walk(tree):
                with self.subTest(file=stem, line=getattr(node, "lineno", None)):
                    if isinstance(node, ast.arg):
                        self.assertNotIn(node.arg, taken)
                        self.assertIsNone(node.annotation)
                    if isinstance(node, ast.Name) and isinstance(node.ctx, ast.Store):
                        self.assertNotIn(node.id, taken)

    def test_methods_and_values_of_objects(self):
        methods = set()
        values = set()
        for tree in trees().values():
            for node in ast.walk(tree):
                if isinstance(node, ast.ClassDef):
                    own = [part.name for part in node.body if isinstance(part, ast.FunctionDef)]
                    self.assertEqual(len(own), len(set(own)), node.name)
                    methods.update(own)
                if isinstance(node, ast.Attribute) and isinstance(node.ctx, ast.Store):
                    self.assertIsInstance(node.value, ast.Name)
                    values.add(node.attr)
        self.assertEqual(methods & values, set())
        for kind in (str, int, list, tuple, dict, set, frozenset, bytes):
            free = {name for name in methods | values if not name.startswith("__")}
            self.assertEqual(free & set(vars(kind)), set(), kind.__name__)

    def test_is_stands_beside_none_true_and_false_alone(self):
        for stem, tree in trees().items():
            for node in ast.walk(tree):
                if isinstance(node, ast.Compare) and isinstance(node.ops[0], (ast.Is, ast.IsNot)):
                    with self.subTest(file=stem, line=node.lineno):
                        self.assertIn(getattr(node.comparators[0], "value", "other"), (None, True, False))

    def test_walked_at_once(self):
        for stem, tree in trees().items():
            walked = [id(part) for node in ast.walk(tree) for part in walked_in(node)]
            for node in ast.walk(tree):
                if called(node) in ("zip", "enumerate", "reversed", "range", "items", "keys", "values"):
                    with self.subTest(file=stem, line=node.lineno):
                        self.assertIn(id(node), walked)

    def test_sets_are_not_kept(self):
        for stem, tree in trees().items():
            beside = []
            for node in ast.walk(tree):
                if isinstance(node, ast.Compare):
                    beside += [id(part) for part in [node.left] + node.comparators]
                if called(node) in ("len", "sorted"):
                    beside += [id(part) for part in node.args]
            for node in ast.walk(tree):
                if called(node) in ("set", "frozenset") or isinstance(node, ast.Set):
                    with self.subTest(file=stem, line=node.lineno):
                        self.assertIn(id(node), beside)

    def test_texts_and_numbers(self):
        for stem, text in texts().items():
            for node in ast.walk(ast.parse(text)):
                with self.subTest(file=stem, line=getattr(node, "lineno", None)):
                    if isinstance(node, ast.Constant) and isinstance(node.value, str):
                        self.assertRegex(node.value, r"\A[ -$&-~\n\t]*\Z")
                    if isinstance(node, ast.BinOp):
                        self.assertNotIsInstance(node.op, ast.Pow)
                    self.assertNotIn(called(node), ("chr", "getattr", "format"))

    def test_keywords(self):
        fit = {"sorted": ("key", "reverse"), "min": ("key", "default"), "max": ("key", "default"),
               "sum": ("start",), "enumerate": ("start",), "zip": ("strict",)}
        for stem, tree in trees().items():
            for node in ast.walk(tree):
                if called(node) in OWN_NAMES | METHODS:
                    for keyword in node.keywords:
                        with self.subTest(file=stem, line=node.lineno):
                            self.assertIn(keyword.arg, fit.get(called(node), ()))

    def test_imports(self):
        files = trees()
        for stem, tree in files.items():
            for node in drawn_from(tree):
                with self.subTest(file=stem, module=node.module):
                    self.assertEqual(node.level, 0)
                    folder, dot, other = node.module.partition(".")
                    self.assertEqual(folder, "leastloss")
                    self.assertIn(other, files)
                    for alias in node.names:
                        self.assertIn(alias.name, bound_at_top(files[other]))

    def test_what_is_drawn_is_used(self):
        for stem, tree in trees().items():
            used = {node.id for node in ast.walk(tree) if isinstance(node, ast.Name)}
            for node in drawn_from(tree):
                for alias in node.names:
                    self.assertIn(alias.name, used, stem)

    def test_no_two_files_draw_from_one_another(self):
        left = {stem: {node.module.partition(".")[2] for node in drawn_from(tree)} for stem, tree in trees().items()}
        while left:
            free = [stem for stem, others in left.items() if not others & set(left)]
            self.assertTrue(free, f"a circle among {sorted(left)}")
            left = {stem: others for stem, others in left.items() if stem not in free}


if __name__ == "__main__":
    unittest.main()
