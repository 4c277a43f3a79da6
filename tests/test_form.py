"""The form of the package's code, as far as plain looking can tell (LANGUAGE.md L1, L2, L10, L12, L14 to L17, L20)."""

import ast
import builtins
import re
import unittest
from pathlib import Path

PACKAGE = Path(__file__).resolve().parent.parent / "rivalsets"
BARRED = re.compile(
    r"\b(type|typing|typing_extensions|enum|Enum|IntEnum|StrEnum|Flag|IntFlag|Generic|Protocol|ABC|ABCMeta|namedtuple"
    r"|NamedTuple|TypedDict|TYPE_CHECKING|abstractmethod)\b|dataclass|overload|contextmanager")
CALLED = set("len range enumerate zip min max sum abs sorted reversed int str bool bytes list tuple dict set isinstance "
             "ord repr any all divmod ValueError".split())


def files():
    return sorted(path for path in PACKAGE.iterdir() if path.name != "__pycache__")


def trees():
    return [(path, ast.parse(path.read_text())) for path in files()]


def bound_names(tree):
    for node in ast.walk(tree):
        if isinstance(node, ast.Name) and isinstance(node.ctx, ast.Store):
            yield node.id
        elif isinstance(node, ast.arg):
            yield node.arg
        elif isinstance(node, ast.FunctionDef) and not node.name.startswith("__"):
            yield node.name


class Form(unittest.TestCase):
    def test_files(self):
        self.assertIn("__init__.py", [path.name for path in files()])
        for path in files():
            self.assertRegex(path.name, r"^[a-z0-9_]+\.py$")

    def test_signs_and_sizes(self):
        for path in files():
            lines = path.read_text().split("\n")
            self.assertLessEqual(len(lines), 400, path)
            for line in lines:
                self.assertRegex(line, r"^[ -~]{0,120}$", path)
                self.assertIsNone(BARRED.search(line), (path, line))

    def test_no_sign_for_hundredths_in_texts(self):
        for path, tree in trees():
            for node in ast.walk(tree):
                if isinstance(node, ast.Constant) and isinstance(node.value, str):
                    self.assertNotIn("%", node.value, path)

    def test_functions_are_short(self):
        for path, tree in trees():
            for node in ast.walk(tree):
                if isinstance(node, ast.FunctionDef):
                    self.assertLessEqual(node.end_lineno - node.lineno + 1, 40, (path, node.name))

    def test_imports(self):
        for path, tree in trees():
            for node in ast.walk(tree):
                self.assertNotIsInstance(node, ast.Import, path)
                if isinstance(node, ast.ImportFrom):
                    self.assertEqual((node.level, node.module.split(".")[0]), (0, "rivalsets"), path)
                    source = ast.parse((PACKAGE / (node.module.split(".")[1] + ".py")).read_text())
                    defined = [row.name for row in source.body if hasattr(row, "name")]
                    defined += [row.targets[0].id for row in source.body if isinstance(row, ast.Assign)]
                    for name in node.names:
                        self.assertIn(name.name, defined, path)

    def test_what_is_imported_is_used(self):
        for path, tree in trees():
            used = [node.id for node in ast.walk(tree) if isinstance(node, ast.Name)]
            for node in ast.walk(tree):
                if isinstance(node, ast.ImportFrom):
                    for name in node.names:
                        self.assertIn(name.name, used, path)

    def test_names(self):
        for path, tree in trees():
            imported = [name.name for node in ast.walk(tree) if isinstance(node, ast.ImportFrom) for name in node.names]
            for name in bound_names(tree):
                self.assertFalse(name.startswith("_"), (path, name))
                self.assertFalse(hasattr(builtins, name), (path, name))
                self.assertNotIn(name, imported, path)

    def test_builtins(self):
        for path, tree in trees():
            for node in ast.walk(tree):
                if isinstance(node, ast.Name) and hasattr(builtins, node.id):
                    self.assertIn(node.id, CALLED, path)

    def test_is_stands_with_none_true_false(self):
        for path, tree in trees():
            for node in ast.walk(tree):
                if isinstance(node, ast.Compare):
                    for sign, side in zip(node.ops, node.comparators):
                        if isinstance(sign, (ast.Is, ast.IsNot)):
                            self.assertIsInstance(side, ast.Constant, path)
