"""The package keeps to the rules of LANGUAGE.md, as far as a look at its files can tell."""

import ast
import builtins
import os
import re
import unittest
import warnings

ROOT = os.path.dirname(os.path.dirname(os.path.abspath(__file__)))
FOLDER = os.path.join(ROOT, "straightened")

# Showing a value at Python's prompt, as doctest does, makes `_` one of its builtins.
PYTHONS_OWN = [name for name in dir(builtins) if name != "_"]
BUILTINS = (
    "len range enumerate zip min max sum abs sorted reversed int str bool list tuple dict set isinstance ord repr any "
    "all divmod super Exception ValueError TypeError KeyError IndexError LookupError ZeroDivisionError ArithmeticError "
    "OverflowError RuntimeError NotImplementedError property classmethod staticmethod"
).split()
LIBRARY = {"math": ["gcd", "lcm", "isqrt", "comb", "perm", "factorial"]}
METHODS = (
    "__init__ __eq__ __repr__ __str__ __len__ __add__ __radd__ __sub__ __rsub__ __mul__ __rmul__ __neg__ __contains__ "
    "__getitem__ __iter__ __call__ __enter__ __exit__"
).split()
BARRED = (
    "typing typing_extensions enum Enum IntEnum StrEnum Flag IntFlag Generic Protocol ABC ABCMeta namedtuple NamedTuple "
    "TypedDict TYPE_CHECKING abstractmethod"
).split()
NOT_LET = (
    ast.GeneratorExp, ast.Lambda, ast.Global, ast.Nonlocal, ast.Yield, ast.YieldFrom, ast.Set, ast.SetComp,
    ast.NamedExpr, ast.AsyncFunctionDef, ast.Await, ast.AnnAssign,
)


def files():
    return sorted(os.listdir(FOLDER))


def text_of(file):
    with open(os.path.join(FOLDER, file), encoding="utf-8") as held:
        return held.read()


def tree_of(file):
    return ast.parse(text_of(file))


def functions(tree):
    return [node for node in ast.walk(tree) if isinstance(node, ast.FunctionDef)]


def bound_at_top(tree):
    """Names that the file itself defines."""
    found = [node.name for node in tree.body if isinstance(node, (ast.FunctionDef, ast.ClassDef))]
    return found + [target.id for node in tree.body if isinstance(node, ast.Assign) for target in node.targets]


def imported(tree):
    return [name.name for node in tree.body if isinstance(node, ast.ImportFrom) for name in node.names]


def local_names(function):
    found = [part.arg for part in function.args.args]
    return found + [node.id for node in ast.walk(function) if isinstance(node, ast.Name) and is_target(node)]


def is_target(node):
    return isinstance(node.ctx, ast.Store)


def docstrings(tree):
    found = []
    for node in ast.walk(tree):
        if isinstance(node, (ast.Module, ast.ClassDef, ast.FunctionDef)) and ast.get_docstring(node) is not None:
            found.append(node.body[0].value)
    return found


class FilesTest(unittest.TestCase):
    def test_names_of_files(self):
        self.assertIn("__init__.py", files())
        for file in files():
            if file != "__pycache__":
                self.assertTrue(re.fullmatch("[a-z][a-z0-9_]*[.]py|__init__[.]py", file), file)

    def each(self):
        for file in files():
            if file != "__pycache__":
                yield file, tree_of(file)

    def test_sizes_and_characters(self):
        for file, tree in self.each():
            rows = text_of(file).split("\n")
            self.assertLessEqual(len(rows), 400, file)
            for row in rows:
                self.assertLessEqual(len(row), 120, row)
                self.assertTrue(all(" " <= sign <= "~" for sign in row), row)
            for function in functions(tree):
                self.assertLessEqual(function.end_lineno - function.lineno + 1, 40, function.name)

    def test_python_has_no_warning(self):
        with warnings.catch_warnings():
            warnings.simplefilter("error")
            for file, _ in self.each():
                compile(text_of(file), file, "exec")

    def test_top_of_files(self):
        let = (ast.ImportFrom, ast.FunctionDef, ast.ClassDef, ast.Assign)
        for file, tree in self.each():
            for at, node in enumerate(tree.body):
                is_docstring = at == 0 and isinstance(node, ast.Expr) and isinstance(node.value, ast.Constant)
                self.assertTrue(is_docstring or isinstance(node, let), (file, node.lineno))
                if isinstance(node, ast.Assign):
                    self.assertEqual(len(node.targets), 1)
                    self.check_plain(node.value, [part.name for part in tree.body[:at] if isinstance(part, ast.FunctionDef)])
            names = bound_at_top(tree) + imported(tree)
            self.assertEqual(len(names), len(set(names)), file)

    def check_plain(self, value, functions_above):
        """A number or a string, a dict of such and of functions above, or a tuple of such and of tuples."""
        if isinstance(value, ast.Dict):
            for key in value.keys:
                self.assertIsInstance(key, ast.Constant)
            for part in value.values:
                if isinstance(part, ast.Name):
                    self.assertIn(part.id, functions_above)
                else:
                    self.assertIsInstance(part, ast.Constant)
        elif isinstance(value, ast.Tuple):
            for part in value.elts:
                self.assertIsInstance(part, (ast.Constant, ast.Tuple))
                self.check_plain(part, [])
        else:
            self.assertIsInstance(value, ast.Constant)

    def test_imports(self):
        behind = {}
        for file, tree in self.each():
            behind[file] = []
            for node in ast.walk(tree):
                self.assertNotIsInstance(node, ast.Import)
                if isinstance(node, ast.ImportFrom):
                    self.check_import(file, node, behind[file])
            used = {node.id for node in ast.walk(tree) if isinstance(node, ast.Name)}
            self.assertEqual([name for name in imported(tree) if name not in used], [], file)
        while behind:
            # What imports nothing that is left goes out; a ring of files would stay.
            ends = [file for file in behind if not [other for other in behind[file] if other in behind]]
            self.assertNotEqual(ends, [])
            behind = {file: behind[file] for file in behind if file not in ends}

    def check_import(self, file, node, behind):
        self.assertEqual((node.level, [name.asname for name in node.names if name.asname]), (0, []))
        for name in node.names:
            if node.module in LIBRARY:
                self.assertIn(name.name, LIBRARY[node.module])
            else:
                package, _, other = node.module.partition(".")
                self.assertEqual(package, "straightened")
                self.assertIn(name.name, bound_at_top(tree_of(other + ".py")), file)
                behind.append(other + ".py")

    def test_statements_and_signs(self):
        for file, tree in self.each():
            for node in ast.walk(tree):
                self.assertNotIsInstance(node, NOT_LET, (file, getattr(node, "lineno", 0)))
                if isinstance(node, ast.BinOp):
                    self.assertNotIsInstance(node.op, (ast.Div, ast.Pow, ast.MatMult))
                if isinstance(node, ast.Delete):
                    self.assertEqual([part for part in node.targets if not isinstance(part, ast.Subscript)], [])
                if isinstance(node, ast.Match):
                    self.check_match(node)
                if isinstance(node, ast.ExceptHandler):
                    self.check_handler(file, node)
                if isinstance(node, ast.Raise):
                    self.assertIsInstance(node.exc, ast.Call)
                    self.assertRegex(node.exc.func.id, "^[A-Z]")
                if isinstance(node, ast.AugAssign):
                    self.assertIsInstance(node.target, ast.Name)
                    self.assertIsInstance(node.value, ast.Constant)
                    self.assertIs(node.value.value.__class__, int)
                if isinstance(node, ast.Constant):
                    self.assertNotIsInstance(node.value, (float, complex, bytes))

    def check_match(self, node):
        """Strings are told apart, and what takes everything stands last."""
        for case in node.cases[:-1]:
            self.assertIsInstance(case.pattern, ast.MatchValue)
            self.assertIsInstance(case.pattern.value, ast.Constant)
            self.assertIsNone(case.guard)
        self.assertEqual(ast.dump(node.cases[-1].pattern), "MatchAs()")

    def check_handler(self, file, node):
        """Only errors of the package are caught, by their names."""
        caught = node.type.elts if isinstance(node.type, ast.Tuple) else [node.type]
        for name in caught:
            self.assertIn(name.id, bound_at_top(tree_of("errors.py")), file)
            self.assertIn(name.id, imported(tree_of(file)), file)

    def test_strings(self):
        for file, tree in self.each():
            told = docstrings(tree)
            for node in ast.walk(tree):
                if isinstance(node, ast.Constant) and isinstance(node.value, str) and node not in told:
                    self.assertNotIn("%", node.value)
                    self.assertEqual([word for word in BARRED if word in re.findall("[A-Za-z_]+", node.value)], [])
            self.assertEqual([word for word in ("dataclass", "overload", "contextmanager", "_wall") if word in text_of(file)], [])

    def test_names(self):
        for file, tree in self.each():
            classes = [node.name for node in ast.walk(tree) if isinstance(node, ast.ClassDef)]
            for function in functions(tree):
                taken = [name for name in local_names(function) if name in classes + imported(tree)]
                self.assertEqual(taken, [], (file, function.name))
                for name in local_names(function):
                    self.assertNotIn(name, PYTHONS_OWN, file)
            for name in bound_at_top(tree) + imported(tree):
                self.assertNotIn(name, PYTHONS_OWN, file)
            for node in ast.walk(tree):
                if isinstance(node, ast.Name) and node.id in PYTHONS_OWN:
                    self.assertIn(node.id, BUILTINS, file)

    def test_functions_and_classes(self):
        for file, tree in self.each():
            for node in ast.walk(tree):
                if isinstance(node, ast.FunctionDef):
                    self.check_function(file, node)
                if isinstance(node, ast.ClassDef):
                    self.assertEqual(node.decorator_list + node.keywords, [])
                    for part in node.body:
                        is_docstring = isinstance(part, ast.Expr) and isinstance(part.value, ast.Constant)
                        self.assertTrue(is_docstring or isinstance(part, ast.FunctionDef), (file, node.name))

    def check_function(self, file, node):
        for decorator in node.decorator_list:
            self.assertIn(decorator.id, ("property", "classmethod"), (file, node.name))
        if node.name.startswith("__"):
            self.assertIn(node.name, METHODS)
        self.assertEqual([part for part in ast.walk(node) if isinstance(part, ast.FunctionDef)], [node])
        if node.args.vararg is not None:
            self.assertIn(node.name, ("do_all", "attempt"))
        self.assertIsNone(node.args.kwarg)
        self.assertEqual(node.args.kwonlyargs + node.args.posonlyargs, [])

    def test_what_can_be_indexed_is_not_iterated_over(self):
        for file, tree in self.each():
            for node in ast.walk(tree):
                if isinstance(node, ast.ClassDef):
                    names = [part.name for part in node.body if isinstance(part, ast.FunctionDef)]
                    if "__getitem__" in names:
                        self.assertIn("__iter__", names)
                    if "__iter__" in names:
                        told = node.body[[getattr(part, "name", "") for part in node.body].index("__iter__")]
                        self.assertIsInstance(told.body[0], ast.Raise, file)

    def test_exits_only_assign(self):
        for file, tree in self.each():
            for node in functions(tree):
                if node.name == "__exit__":
                    for part in node.body:
                        self.assertIsInstance(part, ast.Assign, file)
                        self.assertIsInstance(part.value, ast.Attribute, file)
