"""The rules of ../shared/LANGUAGE.md that can be seen by a plain look at the files of the package."""

import ast
import builtins
import pathlib
import re
import unittest

FOLDER = pathlib.Path(__file__).resolve().parent.parent / "trueroots"
FILES = sorted(FOLDER.glob("*.py"))
BUILTINS = set(
    "len range enumerate zip min max sum abs sorted reversed int str bool bytes list tuple dict set frozenset isinstance"
    " ord repr any all divmod super Exception ValueError TypeError KeyError IndexError LookupError ZeroDivisionError"
    " ArithmeticError OverflowError RuntimeError NotImplementedError AttributeError StopIteration NotImplemented"
    .split())
BARRED = re.compile(
    r"\b(type|typing|typing_extensions|enum|Enum|IntEnum|StrEnum|Flag|IntFlag|Generic|Protocol|ABC|ABCMeta|namedtuple"
    r"|NamedTuple|TypedDict|TYPE_CHECKING|abstractmethod)\b|dataclass|overload|contextmanager")
DOUBLES = {"__init__", "__eq__", "__repr__", "__str__", "__len__"}


class Language(unittest.TestCase):
    def each(self):
        for path in FILES:
            text = path.read_text(encoding="utf-8")
            yield path.name, text, ast.parse(text)

    def test_l1_l14_files(self):
        names = [path.name for path in FOLDER.iterdir() if path.name != "__pycache__"]
        self.assertIn("__init__.py", names)
        for name in names:
            self.assertRegex(name, r"^[a-z_][a-z0-9_]*\.py$")
        for name, text, tree in self.each():
            self.assertRegex(text, r"\A[\n -~]*\Z", name)

    def test_l2_l16_imports(self):
        for name, text, tree in self.each():
            body = tree.body[1:] if ast.get_docstring(tree) is not None else tree.body
            heads = [isinstance(row, ast.ImportFrom) for row in body]
            self.assertEqual(heads, sorted(heads, reverse=True), name)
            for node in ast.walk(tree):
                self.assertNotIsInstance(node, ast.Import, name)
                if isinstance(node, ast.ImportFrom):
                    self.assertEqual(node.level, 0, name)
                    source = FOLDER / (node.module.removeprefix("trueroots.") + ".py")
                    defined = bound(ast.parse(source.read_text()), False)
                    for each in node.names:
                        self.assertIn(each.name, defined, name)

    def test_l10_sizes(self):
        for name, text, tree in self.each():
            rows = text.split("\n")
            self.assertLessEqual(len(rows), 400, name)
            for row in rows:
                self.assertLessEqual(len(row), 120, name)
            for node in ast.walk(tree):
                if isinstance(node, ast.FunctionDef):
                    self.assertLessEqual(node.end_lineno - node.lineno + 1, 40, (name, node.name))

    def test_l8_l12_l15_names(self):
        for name, text, tree in self.each():
            at_top = bound(tree, True)
            self.assertEqual(len(at_top), len(set(at_top)), name)
            for node in ast.walk(tree):
                if isinstance(node, ast.Name):
                    self.assertRegex(node.id, r"^[A-Za-z]", name)
                    if hasattr(builtins, node.id):
                        self.assertIn(node.id, BUILTINS, name)
                        self.assertIsInstance(node.ctx, ast.Load, name)
                if isinstance(node, ast.arg):
                    self.assertFalse(hasattr(builtins, node.arg) or node.arg in at_top, (name, node.arg))
                if isinstance(node, ast.FunctionDef) and node.name.startswith("_"):
                    self.assertIn(node.name, DOUBLES, name)

    def test_l7_l27_values(self):
        for name, text, tree in self.each():
            for node in ast.walk(tree):
                self.assertNotIsInstance(node, (ast.Div, ast.GeneratorExp, ast.Global, ast.Pow), name)
                if isinstance(node, ast.Constant):
                    self.assertNotIsInstance(node.value, (float, complex), name)
                    self.assertFalse(isinstance(node.value, str) and "%" in node.value, name)

    def test_l17_words(self):
        for name, text, tree in self.each():
            self.assertIsNone(BARRED.search(text), name)

    def test_l20_is(self):
        for name, text, tree in self.each():
            for node in ast.walk(tree):
                if isinstance(node, ast.Compare):
                    for sign, side in zip(node.ops, node.comparators):
                        if isinstance(sign, (ast.Is, ast.IsNot)):
                            self.assertTrue(isinstance(side, ast.Constant) and side.value in (None, True, False), name)


def bound(tree, with_imports):
    """The names that a file binds at module level."""
    names = []
    for row in tree.body:
        if isinstance(row, (ast.FunctionDef, ast.ClassDef)):
            names.append(row.name)
        elif isinstance(row, ast.Assign):
            names.extend([target.id for target in row.targets])
        elif isinstance(row, ast.ImportFrom) and with_imports:
            names.extend([each.asname or each.name for each in row.names])
    return names


if __name__ == "__main__":
    unittest.main()
