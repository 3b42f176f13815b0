"""The package keeps to the small part of Python it is written in: the rules that a walk over its files can see."""

import ast
import builtins
import pathlib
import re
import unittest

PACKAGE = pathlib.Path(__file__).resolve().parent.parent / "noteboard"
STATEMENTS = (ast.FunctionDef, ast.ClassDef, ast.ImportFrom, ast.Import, ast.Assign, ast.AugAssign, ast.AnnAssign,
              ast.If, ast.While, ast.For, ast.Return, ast.Break, ast.Continue, ast.Pass, ast.Raise, ast.Try, ast.Expr)
NO_EXPRESSIONS = (ast.SetComp, ast.DictComp, ast.GeneratorExp, ast.NamedExpr, ast.Starred, ast.Yield, ast.YieldFrom,
                  ast.Await, ast.Div, ast.MatMult)
PYTHONS_OWN = set((
    "len range enumerate zip min max sum abs sorted reversed int str bool list tuple dict set frozenset isinstance ord "
    "repr any all divmod Exception ValueError TypeError KeyError IndexError LookupError ZeroDivisionError "
    "ArithmeticError OverflowError RuntimeError NotImplementedError AttributeError StopIteration print").split())
NO_WORDS = set((
    "type typing typing_extensions enum Enum IntEnum StrEnum Flag IntFlag Generic Protocol ABC ABCMeta namedtuple "
    "NamedTuple TypedDict TYPE_CHECKING abstractmethod").split())

PYTHONS_METHODS = set((
    "append clear copy count endswith extend find get index insert isalnum isalpha isdigit islower isspace isupper "
    "items join keys ljust lower lstrip partition pop remove replace reverse rfind rjust rpartition rsplit rstrip "
    "setdefault split splitlines startswith strip update upper values zfill bit_length").split())


def top_names(tree):
    """The names that a file's own defs, classes and values have at its top, in their order."""
    names = []
    for node in tree.body:
        if isinstance(node, (ast.FunctionDef, ast.ClassDef)):
            names.append(node.name)
        if isinstance(node, ast.Assign):
            names += [target.id for target in node.targets]
    return names


def imported(tree):
    return [(node.module, alias.name) for node in tree.body if isinstance(node, ast.ImportFrom) for alias in node.names]


def local_names(tree):
    names = set()
    for function in ast.walk(tree):
        if isinstance(function, (ast.FunctionDef, ast.Lambda)):
            for node in ast.walk(function):
                if isinstance(node, ast.arg):
                    names.add(node.arg)
                if isinstance(node, ast.Name) and isinstance(node.ctx, ast.Store):
                    names.add(node.id)
    return names


def bound_names(tree):
    names = set()
    # A method may be called as no plain name may.
    methods = [part for node in ast.walk(tree) if isinstance(node, ast.ClassDef) for part in node.body]
    for node in ast.walk(tree):
        if isinstance(node, (ast.FunctionDef, ast.ClassDef)):
            if node not in methods:
                names.add(node.name)
        elif isinstance(node, ast.arg):
            names.add(node.arg)
        elif isinstance(node, ast.alias):
            names.add(node.asname or node.name)
        elif isinstance(node, ast.Name) and isinstance(node.ctx, ast.Store):
            names.add(node.id)
        elif isinstance(node, ast.ExceptHandler) and node.name:
            names.add(node.name)
    return names


class FormTest(unittest.TestCase):
    def setUp(self):
        self.files = {path: path.read_text("utf-8") for path in sorted(PACKAGE.rglob("*.py"))}
        self.trees = {path: ast.parse(text) for path, text in self.files.items()}

    def nodes(self):
        for path, tree in self.trees.items():
            for node in ast.walk(tree):
                yield f"{path.name}, line {getattr(node, 'lineno', 0)}", node

    def test_only_files_of_the_program_lie_there(self):
        self.assertIn(PACKAGE / "__init__.py", self.files)
        for path in PACKAGE.rglob("*"):
            if "__pycache__" not in path.parts:
                self.assertRegex(path.name, r"^[a-z0-9_]+(\.py)?$")

    def test_signs_and_sizes(self):
        for path, text in self.files.items():
            lines = text.split("\n")
            with self.subTest(file=path.name):
                self.assertRegex(text, r"\A[ -~\n]*\Z")
                self.assertLessEqual(len(lines), 401)
                self.assertLessEqual(max(map(len, lines)), 120)

    def test_words_that_stand_nowhere(self):
        for path, text in self.files.items():
            with self.subTest(file=path.name):
                self.assertEqual(set(re.findall(r"\w+", text)) & NO_WORDS, set())
                self.assertNotRegex(text, "dataclass|overload|contextmanager")

    def test_statements_and_expressions(self):
        for where, node in self.nodes():
            if isinstance(node, ast.stmt):
                self.assertIsInstance(node, STATEMENTS, where)
            self.assertNotIsInstance(node, NO_EXPRESSIONS, where)
            self.assertFalse(isinstance(node, (ast.For, ast.While)) and node.orelse, where)
            self.assertFalse(isinstance(node, ast.Try) and node.finalbody, where)
            self.assertFalse(isinstance(node, ast.Assign) and len(node.targets) > 1, where)
            if isinstance(node, ast.Constant):
                self.assertNotIsInstance(node.value, (float, bytes, complex), where)
                self.assertFalse(isinstance(node.value, str) and "%" in node.value, where)

    def test_functions(self):
        for where, node in self.nodes():
            if isinstance(node, (ast.FunctionDef, ast.ClassDef)):
                self.assertEqual(node.decorator_list, [], where)
            if isinstance(node, ast.FunctionDef):
                self.assertLessEqual(node.end_lineno - node.lineno + 1, 40, where)
                self.assertIsNone(node.args.vararg or node.args.kwarg, where)
                self.assertEqual(node.args.kwonlyargs + node.args.posonlyargs, [], where)

    def test_is_stands_beside_none_and_truths_alone(self):
        for where, node in self.nodes():
            if isinstance(node, ast.Compare) and any(isinstance(op, (ast.Is, ast.IsNot)) for op in node.ops):
                ends = [end.value for end in [node.left] + node.comparators if isinstance(end, ast.Constant)]
                self.assertTrue(any(end is None or isinstance(end, bool) for end in ends), where)

    def test_imports_are_the_packages_own(self):
        for where, node in self.nodes():
            if isinstance(node, ast.Import):
                self.assertEqual([alias.name for alias in node.names], ["sys"], where)
                self.assertTrue(where.startswith("__main__.py"), where)
            if isinstance(node, ast.ImportFrom) and node.module != "__future__":
                self.assertEqual(node.level, 0, where)
                self.assertRegex(node.module, r"^noteboard\.", where)
                self.assertNotIn("*", [alias.name for alias in node.names], where)

    def test_names(self):
        for path, tree in self.trees.items():
            own = bound_names(tree)
            with self.subTest(file=path.name):
                for name in own:
                    self.assertRegex(name, r"^[A-Za-z][A-Za-z0-9_]*$|^__(all|version)__$")
                self.assertEqual(own & PYTHONS_OWN, set())
                self.assertEqual(local_names(tree) & set(dir(builtins)), set())
                loaded = {node.id for node in ast.walk(tree) if isinstance(node, ast.Name)}
                self.assertEqual(loaded - own - PYTHONS_OWN - {"__name__", "object", "float", "bytes"}, set())

    def test_top_of_each_file(self):
        for path, tree in self.trees.items():
            names = top_names(tree)
            drawn = [name for module, name in imported(tree)]
            classes = [node.name for node in tree.body if isinstance(node, ast.ClassDef)]
            with self.subTest(file=path.name):
                self.assertEqual(len(set(names + drawn)), len(names + drawn))
                self.assertEqual(local_names(tree) & set(drawn + classes), set())
                self.check_top(path, tree)

    def check_top(self, path, tree):
        above = []
        for node in tree.body:
            if path.name != "__main__.py":
                self.assertIsInstance(node, (ast.Expr, ast.ImportFrom, ast.FunctionDef, ast.ClassDef, ast.Assign))
            if isinstance(node, ast.FunctionDef):
                above.append(node.name)
            if isinstance(node, ast.Assign):
                for part in ast.walk(node.value):
                    self.assertIsInstance(part, (ast.Constant, ast.List, ast.Tuple, ast.Dict, ast.Name,
                                                 ast.expr_context, ast.UnaryOp, ast.USub))
                    self.assertTrue(not isinstance(part, ast.Name) or part.id in above, path.name)

    def test_drawn_from_the_file_that_defines_it_and_never_round(self):
        drawn = {path.stem: imported(tree) for path, tree in self.trees.items()}
        defined = {path.stem: top_names(tree) for path, tree in self.trees.items()}
        for stem, rows in drawn.items():
            for module, name in rows:
                self.assertIn(name, defined[module.partition(".")[2]], stem)
        ended = set()
        while len(ended) < len(drawn):
            ready = [stem for stem in drawn if stem not in ended
                     and {module.partition(".")[2] for module, name in drawn[stem]} <= ended]
            self.assertNotEqual(ready, [], "files draw from one another")
            ended |= set(ready)

    def test_methods_of_pythons_own_values(self):
        own = {"__init__"}
        for where, node in self.nodes():
            if isinstance(node, ast.ClassDef):
                own |= {part.name for part in node.body if isinstance(part, ast.FunctionDef)}
        for where, node in self.nodes():
            if isinstance(node, ast.Call) and isinstance(node.func, ast.Attribute):
                self.assertIn(node.func.attr, PYTHONS_METHODS | own, where)

    def test_sets_are_not_kept(self):
        for where, node in self.nodes():
            self.assertNotIsInstance(node, ast.Set, where)
            for part in ast.iter_child_nodes(node):
                if isinstance(part, ast.Call) and isinstance(part.func, ast.Name) and part.func.id == "set":
                    self.assertIsInstance(node, (ast.Call, ast.Compare, ast.BinOp), where)

    def test_walked_at_once(self):
        walkers = {"list", "tuple", "dict", "sorted", "sum", "any", "all", "enumerate", "zip", "min", "max"}
        for where, node in self.nodes():
            if isinstance(node, (ast.For, ast.comprehension)):
                continue
            for part in ast.iter_child_nodes(node):
                if isinstance(part, ast.Call) and isinstance(part.func, ast.Name):
                    if part.func.id in ("zip", "enumerate", "reversed", "range"):
                        self.assertIn(getattr(getattr(node, "func", None), "id", None), walkers, where)


if __name__ == "__main__":
    unittest.main()
