"""The form of the package's own files: what can be seen of it in their text and their tree."""

import ast
import builtins
import pathlib
import re
import unittest

PACKAGE = pathlib.Path(__file__).resolve().parent.parent / "strokegrow"
OWN_NAMES = set(
    "len range enumerate zip min max sum abs sorted reversed int str bool list tuple dict set frozenset isinstance ord "
    "repr any all divmod Exception ValueError TypeError KeyError IndexError LookupError ZeroDivisionError "
    "ArithmeticError OverflowError RuntimeError NotImplementedError AttributeError StopIteration".split()
)
OWN_METHODS = set(
    "append clear copy count endswith extend find get index insert isalnum isalpha isdigit islower isspace isupper "
    "items join keys ljust lower lstrip partition pop remove replace reverse rfind rjust rpartition rsplit rstrip "
    "setdefault split splitlines startswith strip update upper values zfill bit_length".split()
)
METHODS_WITH_TWO = {"__init__", "__eq__", "__repr__", "__str__", "__len__"}
KINDS_OUT = (
    ast.With, ast.Match, ast.Delete, ast.Global, ast.Nonlocal, ast.Assert, ast.Yield, ast.YieldFrom, ast.Await,
    ast.AsyncFunctionDef, ast.AsyncFor, ast.AsyncWith, ast.SetComp, ast.DictComp, ast.GeneratorExp, ast.NamedExpr,
    ast.Starred, ast.Div, ast.MatMult, ast.Import,
)
WORDS_OUT = re.compile(
    r"\b(type|typing|typing_extensions|enum|Enum|IntEnum|StrEnum|Flag|IntFlag|Generic|Protocol|ABC|ABCMeta|namedtuple|"
    r"NamedTuple|TypedDict|TYPE_CHECKING|abstractmethod)\b|dataclass|overload|contextmanager"
)
NAMES_OUT = set("register mro elements open input version_info with_traceback add_note format format_map".split())


def sources():
    """Each file of the package with its text and its tree."""
    told = []
    for path in sorted(PACKAGE.glob("*.py")):
        text = path.read_text(encoding="utf-8")
        told.append((path.name, text, ast.parse(text)))
    return told


def nodes(kind):
    """Each node of a kind, in all files, with the name of its file."""
    return [(name, node) for name, text, tree in sources() for node in ast.walk(tree) if isinstance(node, kind)]


class Files(unittest.TestCase):
    def test_plain_files_alone(self):
        for path in PACKAGE.iterdir():
            if path.name != "__pycache__":
                self.assertRegex(path.name, r"^(__init__|__main__|[a-z][a-z0-9_]*)\.py$")
                self.assertNotRegex(path.name, r"^(tests?|testing|test_.*|site|conftest|sitecustomize)\.py$")

    def test_the_package_is_there(self):
        self.assertIn("__init__.py", [name for name, text, tree in sources()])

    def test_signs_and_sizes(self):
        for name, text, tree in sources():
            self.assertNotRegex(text, r"[^ -~\n]", name)
            self.assertLessEqual(len(text.splitlines()), 400, name)
            for line in text.splitlines():
                self.assertLessEqual(len(line), 120, name)

    def test_words_that_stand_nowhere(self):
        for name, text, tree in sources():
            self.assertIsNone(WORDS_OUT.search(text), name)

    def test_the_top_of_a_file(self):
        for name, text, tree in sources():
            self.assertTrue(ast.get_docstring(tree), name)
            for node in tree.body[1:]:
                self.assertIsInstance(node, (ast.ImportFrom, ast.FunctionDef, ast.ClassDef, ast.Assign), name)


class Statements(unittest.TestCase):
    def test_kinds_that_are_not_used(self):
        self.assertEqual([(name, type(node).__name__) for name, node in nodes(KINDS_OUT)], [])

    def test_one_target(self):
        for name, node in nodes(ast.Assign):
            self.assertEqual(len(node.targets), 1, (name, node.lineno))

    def test_no_else_behind_a_loop_and_no_finally(self):
        for name, node in nodes((ast.For, ast.While)):
            self.assertEqual(node.orelse, [], (name, node.lineno))
        for name, node in nodes(ast.Try):
            self.assertEqual(node.finalbody, [], (name, node.lineno))

    def test_no_float_and_no_bytes(self):
        for name, node in nodes(ast.Constant):
            self.assertNotIsInstance(node.value, (float, complex, bytes), (name, node.lineno))
            self.assertFalse(isinstance(node.value, str) and "%" in node.value, (name, node.lineno))

    def test_imports(self):
        for name, node in nodes(ast.ImportFrom):
            self.assertEqual(node.level, 0, (name, node.lineno))
            self.assertTrue(node.module.startswith("strokegrow."), (name, node.lineno))
            self.assertNotIn("*", [alias.name for alias in node.names])

    def test_names_are_drawn_from_the_file_that_defines_them(self):
        for name, node in nodes(ast.ImportFrom):
            drawn = ast.parse((PACKAGE / (node.module.split(".")[1] + ".py")).read_text(encoding="utf-8"))
            defined = [part.name for part in drawn.body if isinstance(part, (ast.FunctionDef, ast.ClassDef))]
            defined += [part.targets[0].id for part in drawn.body if isinstance(part, ast.Assign)]
            for alias in node.names:
                self.assertIn(alias.name, defined, (name, node.lineno))
                self.assertIsNone(alias.asname, (name, node.lineno))

    def test_no_files_draw_from_one_another(self):
        drawn = {name: set() for name, text, tree in sources()}
        for name, node in nodes(ast.ImportFrom):
            drawn[name].add(node.module.split(".")[1] + ".py")
        while drawn:
            free = [name for name in drawn if not drawn[name] & set(drawn)]
            self.assertTrue(free, drawn)
            for name in free:
                drawn.pop(name)

    def test_powers_and_shifts(self):
        for name, node in nodes(ast.BinOp):
            if isinstance(node.op, ast.Pow):
                self.assertIsInstance(node.right, ast.Constant, (name, node.lineno))

    def test_walked_at_once(self):
        for name, node in nodes(ast.Assign):
            if isinstance(node.value, ast.Call):
                called = getattr(node.value.func, "id", getattr(node.value.func, "attr", ""))
                kept = ("zip", "enumerate", "reversed", "range", "items", "keys", "values", "set", "frozenset")
                self.assertNotIn(called, kept, (name, node.lineno))
            self.assertNotIsInstance(node.value, ast.Set, (name, node.lineno))

    def test_is_beside_plain_values_alone(self):
        for name, node in nodes(ast.Compare):
            for operator, right in zip(node.ops, node.comparators):
                if isinstance(operator, (ast.Is, ast.IsNot)):
                    self.assertIn(getattr(right, "value", ""), (None, True, False), (name, node.lineno))

    def test_comprehensions(self):
        for name, node in nodes(ast.ListComp):
            self.assertEqual(len(node.generators), 1, (name, node.lineno))
            self.assertLessEqual(len(node.generators[0].ifs), 1, (name, node.lineno))

    def test_f_strings(self):
        for name, node in nodes(ast.FormattedValue):
            self.assertIsInstance(node.value, ast.Name, (name, node.lineno))
            self.assertIsNone(node.format_spec, (name, node.lineno))


class DefsAndNames(unittest.TestCase):
    def test_defs(self):
        for name, node in nodes(ast.FunctionDef):
            where = (name, node.name)
            self.assertLessEqual(node.end_lineno - node.lineno + 1, 40, where)
            self.assertEqual(node.decorator_list, [], where)
            self.assertIsNone(node.args.vararg, where)
            self.assertIsNone(node.args.kwarg, where)
            self.assertEqual(node.args.kwonlyargs + node.args.posonlyargs, [], where)
            for default in node.args.defaults:
                self.assertIsInstance(default, ast.Constant, where)
            self.assertTrue(node.name in METHODS_WITH_TWO or not node.name.startswith("_"), where)

    def test_classes(self):
        for name, node in nodes(ast.ClassDef):
            self.assertLessEqual(len(node.bases), 1, (name, node.name))
            self.assertEqual(node.decorator_list + node.keywords, [], (name, node.name))
            for part in node.body[1:]:
                self.assertIsInstance(part, ast.FunctionDef, (name, node.name))
            names = [part.name for part in node.body[1:]]
            self.assertEqual(len(names), len(set(names)), (name, node.name))

    def test_names(self):
        for name, node in nodes(ast.Name):
            self.assertFalse(node.id.startswith("_"), (name, node.lineno))
            if node.id in dir(builtins):
                self.assertIn(node.id, OWN_NAMES, (name, node.lineno))
                self.assertIsInstance(node.ctx, ast.Load, (name, node.lineno))

    def test_parameters(self):
        for name, node in nodes(ast.arg):
            self.assertNotIn(node.arg, dir(builtins), (name, node.lineno))
            self.assertFalse(node.arg.startswith("_"), (name, node.lineno))
            self.assertIsNone(node.annotation, (name, node.lineno))

    def test_locals_are_called_like_nothing_of_the_file(self):
        for name, text, tree in sources():
            taken = {part.name for part in tree.body if isinstance(part, ast.ClassDef)}
            for node in ast.walk(tree):
                if isinstance(node, ast.ImportFrom):
                    taken |= {alias.name for alias in node.names}
            for node in ast.walk(tree):
                if isinstance(node, ast.Name) and isinstance(node.ctx, ast.Store):
                    self.assertNotIn(node.id, taken, (name, node.lineno))
                if isinstance(node, ast.arg):
                    self.assertNotIn(node.arg, taken, (name, node.lineno))

    def test_each_name_once_at_the_top(self):
        for name, text, tree in sources():
            bound = []
            for node in tree.body:
                if isinstance(node, ast.ImportFrom):
                    bound += [alias.name for alias in node.names]
                elif isinstance(node, ast.Assign):
                    bound.append(node.targets[0].id)
                elif isinstance(node, (ast.FunctionDef, ast.ClassDef)):
                    bound.append(node.name)
            self.assertEqual(sorted(bound), sorted(set(bound)), name)

    def test_methods_and_values(self):
        methods = {part.name for name, node in nodes(ast.ClassDef) for part in node.body if hasattr(part, "name")}
        stored = {node.attr for name, node in nodes(ast.Attribute) if isinstance(node.ctx, ast.Store)}
        self.assertEqual(methods & stored, set())
        for name, node in nodes(ast.Attribute):
            where = (name, node.lineno)
            self.assertNotIn(node.attr, NAMES_OUT, where)
            self.assertIn(node.attr, methods | stored | OWN_METHODS, where)


if __name__ == "__main__":
    unittest.main()
