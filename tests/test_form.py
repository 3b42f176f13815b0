"""The package keeps to the small part of Python it is written in: the rules that a walk over its files can see."""

import ast
import pathlib
import re
import unittest

PACKAGE = pathlib.Path(__file__).resolve().parent.parent / "noteboard"
STATEMENTS = (ast.FunctionDef, ast.ClassDef, ast.ImportFrom, ast.Import, ast.Assign, ast.AugAssign, ast.AnnAssign,
              ast.If, ast.While, ast.For, ast.Return, ast.Break, ast.Continue, ast.Pass, ast.Raise, ast.Try, ast.Expr)
NO_EXPRESSIONS = (ast.SetComp, ast.DictComp, ast.GeneratorExp, ast.NamedExpr, ast.Starred, ast.Yield, ast.YieldFrom,
                  ast.Await, ast.Div, ast.MatMult)
PYTHONS_OWN = set((
    "len range enumerate zip min max sum abs sorted reversed int str bool list tuple dict set frozenset isinstance ord "
    "repr any all divmod Exception ValueError TypeError KeyError IndexError LookupError ZeroDivisionError "
    "ArithmeticError OverflowError RuntimeError NotImplementedError AttributeError StopIteration print").split())
NO_WORDS = set((
    "type typing typing_extensions enum Enum IntEnum StrEnum Flag IntFlag Generic Protocol ABC ABCMeta namedtuple "
    "NamedTuple TypedDict TYPE_CHECKING abstractmethod").split())


def bound_names(tree):
    names = set()
    # A method may be called as no plain name may.
    methods = [part for node in ast.walk(tree) if isinstance(node, ast.ClassDef) for part in node.body]
    for node in ast.walk(tree):
        if isinstance(node, (ast.FunctionDef, ast.ClassDef)):
            if node not in methods:
                names.add(node.name)
        elif isinstance(node, ast.arg):
            names.add(node.arg)
        elif isinstance(node, ast.alias):
            names.add(node.asname or node.name)
        elif isinstance(node, ast.Name) and isinstance(node.ctx, ast.Store):
            names.add(node.id)
        elif isinstance(node, ast.ExceptHandler) and node.name:
            names.add(node.name)
    return names


class FormTest(unittest.TestCase):
    def setUp(self):
        self.files = {path: path.read_text("utf-8") for path in sorted(PACKAGE.rglob("*.py"))}
        self.trees = {path: ast.parse(text) for path, text in self.files.items()}

    def nodes(self):
        for path, tree in self.trees.items():
            for node in ast.walk(tree):
                yield f"{path.name}, line {getattr(node, 'lineno', 0)}", node

    def test_only_files_of_the_program_lie_there(self):
        self.assertIn(PACKAGE / "__init__.py", self.files)
        for path in PACKAGE.rglob("*"):
            if "__pycache__" not in path.parts:
                self.assertRegex(path.name, r"^[a-z0-9_]+(\.py)?$")

    def test_signs_and_sizes(self):
        for path, text in self.files.items():
            lines = text.split("\n")
            with self.subTest(file=path.name):
                self.assertRegex(text, r"\A[ -~\n]*\Z")
                self.assertLessEqual(len(lines), 401)
                self.assertLessEqual(max(map(len, lines)), 120)

    def test_words_that_stand_nowhere(self):
        for path, text in self.files.items():
            with self.subTest(file=path.name):
                self.assertEqual(set(re.findall(r"\w+", text)) & NO_WORDS, set())
                self.assertNotRegex(text, "dataclass|overload|contextmanager")

    def test_statements_and_expressions(self):
        for where, node in self.nodes():
            if isinstance(node, ast.stmt):
                self.assertIsInstance(node, STATEMENTS, where)
            self.assertNotIsInstance(node, NO_EXPRESSIONS, where)
            self.assertFalse(isinstance(node, (ast.For, ast.While)) and node.orelse, where)
            self.assertFalse(isinstance(node, ast.Try) and node.finalbody, where)
            self.assertFalse(isinstance(node, ast.Assign) and len(node.targets) > 1, where)
            if isinstance(node, ast.Constant):
                self.assertNotIsInstance(node.value, (float, bytes, complex), where)
                self.assertFalse(isinstance(node.value, str) and "%" in node.value, where)

    def test_functions(self):
        for where, node in self.nodes():
            if isinstance(node, (ast.FunctionDef, ast.ClassDef)):
                self.assertEqual(node.decorator_list, [], where)
            if isinstance(node, ast.FunctionDef):
                self.assertLessEqual(node.end_lineno - node.lineno + 1, 40, where)
                self.assertIsNone(node.args.vararg or node.args.kwarg, where)
                self.assertEqual(node.args.kwonlyargs + node.args.posonlyargs, [], where)

    def test_is_stands_beside_none_and_truths_alone(self):
        for where, node in self.nodes():
            if isinstance(node, ast.Compare) and any(isinstance(op, (ast.Is, ast.IsNot)) for op in node.ops):
                ends = [end.value for end in [node.left] + node.comparators if isinstance(end, ast.Constant)]
                self.assertTrue(any(end is None or isinstance(end, bool) for end in ends), where)

    def test_imports_are_the_packages_own(self):
        for where, node in self.nodes():
            if isinstance(node, ast.Import):
                self.assertEqual([alias.name for alias in node.names], ["sys"], where)
                self.assertTrue(where.startswith("__main__.py"), where)
            if isinstance(node, ast.ImportFrom) and node.module != "__future__":
                self.assertEqual(node.level, 0, where)
                self.assertRegex(node.module, r"^noteboard\.", where)
                self.assertNotIn("*", [alias.name for alias in node.names], where)

    def test_names(self):
        for path, tree in self.trees.items():
            own = bound_names(tree)
            with self.subTest(file=path.name):
                for name in own:
                    self.assertRegex(name, r"^[A-Za-z][A-Za-z0-9_]*$|^__(all|version)__$")
                self.assertEqual(own & PYTHONS_OWN, set())
                loaded = {node.id for node in ast.walk(tree) if isinstance(node, ast.Name)}
                self.assertEqual(loaded - own - PYTHONS_OWN - {"__name__", "object", "float", "bytes"}, set())


if __name__ == "__main__":
    unittest.main()
