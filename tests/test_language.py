"""The package's files keep to the rules of the language: those of L1 to L28 that a walk over the code can see."""

import ast
import builtins
import pathlib
import re
import unittest

PACKAGE = pathlib.Path(__file__).resolve().parent.parent / "cellfolio"

STATEMENTS = (ast.Assign, ast.AugAssign, ast.AnnAssign, ast.If, ast.While, ast.For, ast.Return, ast.Break,
              ast.Continue, ast.Pass, ast.Raise, ast.Try, ast.Expr, ast.FunctionDef, ast.ClassDef, ast.ImportFrom,
              ast.Import)
EXPRESSIONS = (ast.Constant, ast.List, ast.Tuple, ast.Dict, ast.Set, ast.BinOp, ast.UnaryOp, ast.BoolOp, ast.Compare,
               ast.IfExp, ast.Call, ast.Attribute, ast.Subscript, ast.Slice, ast.ListComp, ast.JoinedStr,
               ast.FormattedValue, ast.Lambda, ast.Name)
OWN_NAMES = """len range enumerate zip min max sum abs sorted reversed int str bool list tuple dict set frozenset
isinstance ord repr any all divmod Exception ValueError TypeError KeyError IndexError LookupError ZeroDivisionError
ArithmeticError OverflowError RuntimeError NotImplementedError AttributeError StopIteration""".split()
METHODS = """append clear copy count endswith extend find get index insert isalnum isalpha isdigit islower isspace
isupper items join keys ljust lower lstrip partition pop remove replace reverse rfind rjust rpartition rsplit rstrip
setdefault split splitlines startswith strip update upper values zfill bit_length""".split()
DUNDERS = "__init__ __eq__ __repr__ __str__ __len__ __all__ __version__".split()
WORDS = """type typing typing_extensions enum Enum IntEnum StrEnum Flag IntFlag Generic Protocol ABC ABCMeta namedtuple
NamedTuple TypedDict TYPE_CHECKING abstractmethod""".split()
WITHIN_WORDS = "dataclass overload contextmanager".split()
WALKED = "zip enumerate reversed range items keys values".split()
WALKERS = "list tuple dict sorted sum any all enumerate zip".split()
# What methods and values of the program's own may be called, though Python's own values have such methods.
OWN_METHODS = METHODS + ["add", "discard"]
OWN_VALUES = "count index title find get join lower upper split strip copy add".split()
UNUSED = "register mro elements open input version_info with_traceback add_note format format_map".split()


def files():
    return sorted(path for path in PACKAGE.iterdir() if path.name != "__pycache__")


def trees():
    return [(path, ast.parse(path.read_text(encoding="utf-8"))) for path in files()]


def bound_at_top(tree):
    names = []
    for row in tree.body:
        if isinstance(row, (ast.FunctionDef, ast.ClassDef)):
            names.append(row.name)
        if isinstance(row, ast.Assign):
            names += [target.id for target in row.targets if isinstance(target, ast.Name)]
    return names


def names_used(node):
    """The names that stand in one node itself."""
    if isinstance(node, ast.Name):
        return [node.id]
    if isinstance(node, ast.Attribute):
        return [node.attr]
    if isinstance(node, ast.arg):
        return [node.arg]
    if isinstance(node, (ast.FunctionDef, ast.ClassDef)):
        return [node.name]
    return []


def called_name(node):
    """What is called there: a name, or a method's name; else nothing."""
    if isinstance(node, ast.Call) and isinstance(node.func, ast.Name):
        return node.func.id
    if isinstance(node, ast.Call) and isinstance(node.func, ast.Attribute):
        return node.func.attr
    return ""


def walked_at_once(tree):
    """The nodes that are walked where they stand."""
    found = []
    for node in ast.walk(tree):
        if isinstance(node, (ast.For, ast.comprehension)):
            found.append(node.iter)
        if called_name(node) in WALKERS and node.args:
            found += node.args if called_name(node) == "zip" else node.args[:1]
        if called_name(node) in ("min", "max") and len(node.args) == 1:
            found.append(node.args[0])
        if called_name(node) == "join" and isinstance(node.func.value, ast.Constant):
            found += node.args
    return found


def methods_of(tree):
    classes = [row for row in tree.body if isinstance(row, ast.ClassDef)]
    return [row.name for one in classes for row in one.body if isinstance(row, ast.FunctionDef)]


def values_of(tree):
    """The names of values that are given to objects."""
    return [node.attr for node in ast.walk(tree) if isinstance(node, ast.Attribute) and isinstance(node.ctx, ast.Store)]


def bound_in_functions(tree):
    """Parameters and locals, also those of lambdas and comprehensions."""
    tops = [target for row in tree.body if isinstance(row, ast.Assign) for target in row.targets]
    names = [node.arg for node in ast.walk(tree) if isinstance(node, ast.arg)]
    names += [node.id for node in ast.walk(tree)
              if isinstance(node, ast.Name) and isinstance(node.ctx, ast.Store) and node not in tops]
    return names


class TestFiles(unittest.TestCase):

    def test_names(self):
        self.assertTrue((PACKAGE / "__init__.py").is_file())
        for path in files():
            with self.subTest(file=path.name):
                self.assertTrue(path.is_file())
                self.assertRegex(path.name, r"^([a-z][a-z0-9_]*|__init__|__main__)\.py$")
                self.assertFalse(path.stem[0] != "_" and hasattr(builtins, path.stem))
                self.assertFalse(path.stem.startswith("test"))

    def test_signs_and_sizes(self):
        for path in files():
            text = path.read_text(encoding="utf-8")
            with self.subTest(file=path.name):
                self.assertEqual([sign for sign in text if not (" " <= sign <= "~" or sign == "\n")], [])
                self.assertLessEqual(len(text.split("\n")) - 1, 400)
                self.assertLessEqual(max(len(line) for line in text.split("\n")), 120)

    def test_words(self):
        for path in files():
            text = path.read_text(encoding="utf-8")
            with self.subTest(file=path.name):
                self.assertEqual([word for word in re.findall(r"\w+", text) if word in WORDS], [])
                self.assertEqual([word for word in WITHIN_WORDS if word in text], [])


class TestImports(unittest.TestCase):

    def test_only_own_names_from_where_they_are_defined(self):
        bound = {"cellfolio." + path.stem: bound_at_top(tree) for path, tree in trees()}
        for path, tree in trees():
            if path.name == "__main__.py":
                continue
            for node in ast.walk(tree):
                with self.subTest(file=path.name, line=getattr(node, "lineno", 0)):
                    self.assertNotIsInstance(node, ast.Import)
                    if isinstance(node, ast.ImportFrom) and node.module != "__future__":
                        self.assertIn(node, tree.body)
                        self.assertEqual(node.level, 0)
                        self.assertIn(node.module, bound)
                        self.assertEqual([one.name for one in node.names if one.name not in bound[node.module]], [])

    def test_no_two_draw_from_one_another(self):
        drawn = {}
        for path, tree in trees():
            drawn["cellfolio." + path.stem] = {row.module for row in tree.body if isinstance(row, ast.ImportFrom)}
        while drawn:
            free = [name for name in drawn if not any(other in drawn for other in drawn[name])]
            self.assertTrue(free, f"in a ring: {sorted(drawn)}")
            for name in free:
                drawn.pop(name)


class TestCode(unittest.TestCase):

    def check_each(self, look):
        for path, tree in trees():
            for node in ast.walk(tree):
                with self.subTest(file=path.name, line=getattr(node, "lineno", 0)):
                    look(path, node)

    def test_statements_and_expressions(self):
        self.check_each(self.see_statements_and_expressions)

    def see_statements_and_expressions(self, path, node):
        if isinstance(node, ast.stmt):
            self.assertIsInstance(node, STATEMENTS)
        if isinstance(node, ast.expr):
            self.assertIsInstance(node, EXPRESSIONS)
        if isinstance(node, ast.Assign):
            self.assertEqual(len(node.targets), 1)
        if isinstance(node, (ast.For, ast.While)):
            self.assertEqual(node.orelse, [])
        if isinstance(node, ast.Try):
            self.assertEqual(node.finalbody, [])
        if isinstance(node, ast.ListComp):
            self.assertEqual(len(node.generators), 1)
            self.assertLessEqual(len(node.generators[0].ifs), 1)
        if isinstance(node, ast.Expr):
            self.assertTrue(isinstance(node.value, ast.Call) or isinstance(node.value.value, str))

    def test_operators(self):
        self.check_each(self.see_operators)

    def see_operators(self, path, node):
        if isinstance(node, (ast.BinOp, ast.AugAssign)):
            self.assertNotIsInstance(node.op, (ast.Div, ast.MatMult))
        if isinstance(node, ast.BinOp) and isinstance(node.op, ast.Pow):
            self.assertIsInstance(node.right, ast.Constant)
            self.assertIn(node.right.value, range(65))
        if isinstance(node, ast.Compare):
            values = [node.left] + node.comparators
            for place, op in enumerate(node.ops):
                if isinstance(op, (ast.Is, ast.IsNot)):
                    beside = [one.value for one in values[place:place + 2] if isinstance(one, ast.Constant)]
                    self.assertTrue(any(one is None or one is True or one is False for one in beside))

    def test_values(self):
        self.check_each(self.see_values)

    def see_values(self, path, node):
        if isinstance(node, ast.Constant) and node.value is not None and node.value is not Ellipsis:
            self.assertIsInstance(node.value, (int, str))
            self.assertFalse(isinstance(node.value, str) and "%" in node.value)

    def test_functions_and_classes(self):
        self.check_each(self.see_functions_and_classes)

    def see_functions_and_classes(self, path, node):
        if isinstance(node, (ast.FunctionDef, ast.ClassDef)):
            self.assertEqual(node.decorator_list, [])
        if isinstance(node, ast.FunctionDef):
            self.assertLessEqual(node.end_lineno - node.lineno + 1, 40)
        if isinstance(node, ast.arguments):
            self.assertIsNone(node.vararg)
            self.assertIsNone(node.kwarg)
            self.assertEqual(node.kwonlyargs + node.posonlyargs, [])
        if isinstance(node, ast.ClassDef):
            self.assertLessEqual(len(node.bases), 1)
            self.assertEqual(node.keywords, [])
            for row in node.body:
                self.assertIsInstance(row, (ast.FunctionDef, ast.Pass, ast.Expr))

    def test_names(self):
        self.check_each(self.see_names)

    def see_names(self, path, node):
        for name in names_used(node):
            self.assertTrue(name in DUNDERS or re.fullmatch("[A-Za-z][A-Za-z0-9_]*", name), name)
            self.assertNotIn(name, UNUSED)
        if isinstance(node, ast.Name) and path.name != "__main__.py" and hasattr(builtins, node.id):
            self.assertIn(node.id, OWN_NAMES)
            self.assertIsInstance(node.ctx, ast.Load)
        if isinstance(node, ast.arg):
            self.assertFalse(hasattr(builtins, node.arg), node.arg)

    def test_methods(self):
        own = [name for path, tree in trees() for name in methods_of(tree)]

        def look(path, node):
            if isinstance(node, ast.Call) and isinstance(node.func, ast.Attribute) and path.name != "__main__.py":
                self.assertIn(node.func.attr, METHODS + own + ["__init__"])

        self.check_each(look)

    def test_no_name_is_a_method_and_a_value(self):
        methods = [name for path, tree in trees() for name in methods_of(tree)]
        values = [name for path, tree in trees() for name in values_of(tree)]
        self.assertEqual([name for name in values if name in methods], [])

    def test_names_of_own_methods_and_values(self):
        pythons = [name for kind in (str, int, list, tuple, dict, set, bytes, float, ValueError) for name in dir(kind)]
        for path, tree in trees():
            with self.subTest(file=path.name):
                methods = [name for name in methods_of(tree) if name not in OWN_METHODS + DUNDERS]
                self.assertEqual([name for name in methods if name in pythons], [])
                values = [name for name in values_of(tree) if name not in OWN_VALUES]
                self.assertEqual([name for name in values if name in pythons], [])

    def test_sets(self):
        for path, tree in trees():
            good = []
            for node in ast.walk(tree):
                if called_name(node) in ("sorted", "len") and not node.keywords:
                    good += node.args
                if isinstance(node, ast.Compare):
                    good += node.comparators
            for node in ast.walk(tree):
                if called_name(node) in ("set", "frozenset") or isinstance(node, ast.Set):
                    with self.subTest(file=path.name, line=node.lineno):
                        self.assertIn(node, good)

    def test_walked_at_once(self):
        for path, tree in trees():
            good = walked_at_once(tree)
            for node in ast.walk(tree):
                if called_name(node) in WALKED:
                    with self.subTest(file=path.name, line=node.lineno):
                        self.assertIn(node, good)

    def test_no_local_is_called_like_an_import_or_a_class(self):
        for path, tree in trees():
            taken = [one.name for row in tree.body if isinstance(row, ast.ImportFrom) for one in row.names]
            taken += [row.name for row in tree.body if isinstance(row, ast.ClassDef)]
            with self.subTest(file=path.name):
                self.assertEqual([name for name in bound_in_functions(tree) if name in taken], [])

    def test_the_top_of_a_file(self):
        for path, tree in trees():
            names = bound_at_top(tree)
            with self.subTest(file=path.name):
                self.assertEqual(len(names), len(set(names)))
                for row in tree.body[1:]:
                    if path.name != "__main__.py":
                        self.assertIsInstance(row, (ast.ImportFrom, ast.FunctionDef, ast.ClassDef, ast.Assign))


if __name__ == "__main__":
    unittest.main()
