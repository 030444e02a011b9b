"""The form of the package's files: what can be seen of it by reading them."""

import ast
import builtins
import pathlib
import re
import unittest

PACKAGE = pathlib.Path(__file__).resolve().parent.parent / "summitwater"

BUILT_IN = set("""
    len range enumerate zip min max sum abs sorted reversed int str bool bytes list tuple dict set frozenset isinstance
    ord repr any all divmod Exception ValueError TypeError KeyError IndexError LookupError ZeroDivisionError
    ArithmeticError OverflowError RuntimeError NotImplementedError AttributeError StopIteration
""".split())
METHODS = set("""
    append clear copy count endswith extend find get index insert isalnum isalpha isdigit islower isspace isupper items
    join keys ljust lower lstrip partition pop remove replace reverse rfind rjust rpartition rsplit rstrip setdefault
    split splitlines startswith strip update upper values zfill bit_length sort add discard
""".split())
LEFT_OUT = (
    ast.With, ast.AsyncWith, ast.AsyncFor, ast.AsyncFunctionDef, ast.Await, ast.Global, ast.Nonlocal, ast.Yield,
    ast.YieldFrom, ast.Match, ast.NamedExpr, ast.GeneratorExp, ast.Div, ast.MatMult, ast.Import,
)
WORDS_LEFT_OUT = re.compile(
    r"\b(type|typing|typing_extensions|enum|Enum|IntEnum|StrEnum|Flag|IntFlag|Generic|Protocol|ABC|ABCMeta|namedtuple"
    r"|NamedTuple|TypedDict|TYPE_CHECKING|abstractmethod)\b|dataclass|overload|contextmanager"
)
PLAIN_NAME = re.compile(r"[A-Za-z][A-Za-z0-9_]*\Z")


def files():
    return sorted(PACKAGE.rglob("*.py"))


def trees():
    return [(path, ast.parse(path.read_text())) for path in files()]


def nodes(kind):
    return [(path, node) for path, tree in trees() for node in ast.walk(tree) if isinstance(node, kind)]


def bound_names(tree):
    names = set()
    for node in ast.walk(tree):
        if isinstance(node, ast.Name) and isinstance(node.ctx, ast.Store):
            names.add(node.id)
        elif isinstance(node, (ast.FunctionDef, ast.ClassDef)):
            names.add(node.name)
        elif isinstance(node, ast.arg):
            names.add(node.arg)
        elif isinstance(node, ast.ExceptHandler) and node.name:
            names.add(node.name)
        elif isinstance(node, ast.ImportFrom):
            names.update(alias.asname or alias.name for alias in node.names)
    return names


class FilesTest(unittest.TestCase):
    def test_only_plainly_named_python_files(self):
        self.assertTrue(files())
        for path in PACKAGE.rglob("*"):
            if "__pycache__" not in path.parts:
                self.assertEqual(path.suffix, ".py", path)
                self.assertRegex(path.stem, r"\A(__init__|__main__|[a-z][a-z0-9_]*)\Z")

    def test_signs_and_sizes(self):
        for path in files():
            rows = path.read_text().split("\n")
            self.assertLessEqual(len(rows), 400, path)
            for number, row in enumerate(rows, 1):
                self.assertRegex(row, r"\A[ -~]{0,120}\Z", (path, number))
                self.assertIsNone(WORDS_LEFT_OUT.search(row), (path, number))

    def test_functions_are_short(self):
        for path, node in nodes(ast.FunctionDef):
            self.assertLessEqual(node.end_lineno - node.lineno + 1, 40, (path, node.name))


class CodeTest(unittest.TestCase):
    def test_what_is_left_out(self):
        for path, node in nodes(LEFT_OUT):
            self.fail((path, node.lineno, node))
        for path, node in nodes(ast.Constant):
            self.assertNotIsInstance(node.value, (float, complex), (path, node.lineno))
        for path, node in nodes((ast.For, ast.While)):
            self.assertEqual(node.orelse, [], (path, node.lineno))

    def test_imports_are_the_packages_own(self):
        for path, node in nodes(ast.ImportFrom):
            self.assertEqual(node.level, 0, path)
            self.assertRegex(node.module, r"\Asummitwater\.[a-z_]+\Z", path)
            self.assertTrue((PACKAGE / (node.module.split(".")[1] + ".py")).is_file(), path)
            self.assertNotIn("*", [alias.name for alias in node.names], path)

    def test_names_are_drawn_from_the_file_that_defines_them(self):
        for path, node in nodes(ast.ImportFrom):
            tree = ast.parse((PACKAGE / (node.module.split(".")[1] + ".py")).read_text())
            own = {part.name for part in tree.body if isinstance(part, (ast.FunctionDef, ast.ClassDef))}
            own |= {part.targets[0].id for part in tree.body if isinstance(part, ast.Assign)}
            for alias in node.names:
                self.assertIn(alias.name, own, (path, node.module))

    def test_no_local_is_called_like_an_import_or_a_class(self):
        for path, tree in trees():
            drawn = {alias.name for node in ast.walk(tree) if isinstance(node, ast.ImportFrom) for alias in node.names}
            drawn |= {node.name for node in ast.walk(tree) if isinstance(node, ast.ClassDef)}
            for node in ast.walk(tree):
                if isinstance(node, ast.Name) and isinstance(node.ctx, ast.Store):
                    self.assertNotIn(node.id, drawn, (path, node.lineno))
                elif isinstance(node, ast.arg):
                    self.assertNotIn(node.arg, drawn, (path, node.lineno))

    def test_each_import_is_used(self):
        for path, tree in trees():
            drawn = {alias.name for node in ast.walk(tree) if isinstance(node, ast.ImportFrom) for alias in node.names}
            used = {node.id for node in ast.walk(tree) if isinstance(node, ast.Name)}
            self.assertLessEqual(drawn, used, path)

    def test_no_two_files_draw_from_one_another(self):
        drawn = {path.stem: set() for path in files()}
        for path, node in nodes(ast.ImportFrom):
            drawn[path.stem].add(node.module.split(".")[1])
        while drawn:
            free = [name for name, others in drawn.items() if not others & set(drawn)]
            self.assertTrue(free, drawn)
            for name in free:
                del drawn[name]

    def test_names_are_plain_and_not_pythons_own(self):
        for path, tree in trees():
            for name in bound_names(tree):
                self.assertTrue(PLAIN_NAME.match(name) or name == "__init__", (path, name))
                self.assertNotIn(name, dir(builtins), path)

    def test_no_other_built_in_name(self):
        for path, tree in trees():
            known = bound_names(tree) | BUILT_IN
            for node in ast.walk(tree):
                if isinstance(node, ast.Name):
                    self.assertIn(node.id, known, (path, node.lineno))

    def test_no_other_method(self):
        own = {node.name for path, node in nodes(ast.FunctionDef)}
        for path, node in nodes(ast.Call):
            if isinstance(node.func, ast.Attribute):
                self.assertIn(node.func.attr, METHODS | own, (path, node.lineno))

    def test_plain_parameters(self):
        for path, node in nodes(ast.FunctionDef):
            self.assertEqual(node.decorator_list, [], (path, node.name))
            self.assertIsNone(node.args.vararg, (path, node.name))
            self.assertIsNone(node.args.kwarg, (path, node.name))
            self.assertEqual(node.args.posonlyargs, [], (path, node.name))

    def test_is_stands_beside_none_true_and_false(self):
        for path, node in nodes(ast.Compare):
            for sign, right in zip(node.ops, node.comparators):
                if isinstance(sign, (ast.Is, ast.IsNot)):
                    self.assertIsInstance(right, ast.Constant, (path, node.lineno))
                    self.assertIn(repr(right.value), ["None", "True", "False"], (path, node.lineno))


if __name__ == "__main__":
    unittest.main()
