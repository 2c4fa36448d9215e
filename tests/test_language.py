"""The rules of ../shared/LANGUAGE.md that can be seen by a plain look at the files of the package."""

import ast
import builtins
import pathlib
import re
import unittest

FOLDER = pathlib.Path(__file__).resolve().parent.parent / "trueroots"
FILES = sorted(FOLDER.glob("*.py"))
BUILTINS = set(
    "len range enumerate zip min max sum abs sorted reversed int str bool bytes list tuple dict set frozenset isinstance"
    " ord repr any all divmod super Exception ValueError TypeError KeyError IndexError LookupError ZeroDivisionError"
    " ArithmeticError OverflowError RuntimeError NotImplementedError AttributeError StopIteration NotImplemented"
    .split())
BARRED = re.compile(
    r"\b(type|typing|typing_extensions|enum|Enum|IntEnum|StrEnum|Flag|IntFlag|Generic|Protocol|ABC|ABCMeta|namedtuple"
    r"|NamedTuple|TypedDict|TYPE_CHECKING|abstractmethod)\b|dataclass|overload|contextmanager")
DOUBLES = {"__init__", "__eq__", "__repr__", "__str__", "__len__"}
# L25, the first list; those of the second list are not needed so far.
BUILT_IN = set(
    "append clear copy count endswith extend find get index insert isalnum isalpha isdigit islower isspace isupper items"
    " join keys ljust lower lstrip partition pop remove replace reverse rfind rjust rpartition rsplit rstrip setdefault"
    " split splitlines startswith strip update upper values zfill bit_length".split())
AT_ONCE = {"zip", "enumerate", "reversed", "range"}
TAKERS = {"list", "tuple", "dict", "sorted", "sum", "any", "all", "enumerate", "zip"}
KEYWORDS = {"sorted": {"key", "reverse"}, "min": {"key", "default"}, "max": {"key", "default"}, "sum": {"start"},
            "enumerate": {"start"}, "zip": {"strict"}}


class Language(unittest.TestCase):
    def each(self):
        for path in FILES:
            text = path.read_text(encoding="utf-8")
            yield path.name, text, ast.parse(text)

    def test_l1_l14_files(self):
        names = [path.name for path in FOLDER.iterdir() if path.name != "__pycache__"]
        self.assertIn("__init__.py", names)
        for name in names:
            self.assertRegex(name, r"^[a-z_][a-z0-9_]*\.py$")
        for name, text, tree in self.each():
            self.assertRegex(text, r"\A[\n -~]*\Z", name)

    def test_l2_l16_imports(self):
        for name, text, tree in self.each():
            body = tree.body[1:] if ast.get_docstring(tree) is not None else tree.body
            heads = [isinstance(row, ast.ImportFrom) for row in body]
            self.assertEqual(heads, sorted(heads, reverse=True), name)
            for node in ast.walk(tree):
                self.assertNotIsInstance(node, ast.Import, name)
                if isinstance(node, ast.ImportFrom):
                    self.assertEqual(node.level, 0, name)
                    source = FOLDER / (node.module.removeprefix("trueroots.") + ".py")
                    defined = bound(ast.parse(source.read_text()), False)
                    for each in node.names:
                        self.assertIn(each.name, defined, name)

    def test_l10_sizes(self):
        for name, text, tree in self.each():
            rows = text.split("\n")
            self.assertLessEqual(len(rows), 400, name)
            for row in rows:
                self.assertLessEqual(len(row), 120, name)
            for node in ast.walk(tree):
                if isinstance(node, ast.FunctionDef):
                    self.assertLessEqual(node.end_lineno - node.lineno + 1, 40, (name, node.name))

    def test_l8_l12_l15_names(self):
        for name, text, tree in self.each():
            at_top = bound(tree, True)
            self.assertEqual(len(at_top), len(set(at_top)), name)
            for node in ast.walk(tree):
                if isinstance(node, ast.Name):
                    self.assertRegex(node.id, r"^[A-Za-z]", name)
                    if hasattr(builtins, node.id):
                        self.assertIn(node.id, BUILTINS, name)
                        self.assertIsInstance(node.ctx, ast.Load, name)
                if isinstance(node, ast.arg):
                    self.assertFalse(hasattr(builtins, node.arg) or node.arg in at_top, (name, node.arg))
                if isinstance(node, ast.FunctionDef) and node.name.startswith("_"):
                    self.assertIn(node.name, DOUBLES, name)

    def test_l15_no_name_hides_an_import_or_a_class(self):
        for name, text, tree in self.each():
            barred = [row.name for row in tree.body if isinstance(row, ast.ClassDef)]
            for row in tree.body:
                if isinstance(row, ast.ImportFrom):
                    barred.extend([each.asname or each.name for each in row.names])
            for node in ast.walk(tree):
                if isinstance(node, ast.Name) and isinstance(node.ctx, ast.Store):
                    self.assertNotIn(node.id, barred, (name, node.lineno))
                if isinstance(node, ast.ExceptHandler):
                    self.assertNotIn(node.name, barred, (name, node.lineno))

    def test_l16_no_file_imports_itself_through_others(self):
        needs = {}
        for name, text, tree in self.each():
            needs[name] = [row.module.removeprefix("trueroots.") + ".py" for row in tree.body
                           if isinstance(row, ast.ImportFrom)]
        done = []
        while len(done) < len(needs):
            ready = [name for name in needs if name not in done and all([each in done for each in needs[name]])]
            self.assertTrue(ready, [name for name in needs if name not in done])
            done.extend(ready)

    def test_l18_no_name_is_a_method_and_an_attribute(self):
        methods, attributes = set(), set()
        for name, text, tree in self.each():
            for node in ast.walk(tree):
                if isinstance(node, ast.ClassDef):
                    methods.update([row.name for row in node.body if isinstance(row, ast.FunctionDef)])
                if isinstance(node, ast.Attribute) and isinstance(node.ctx, ast.Store):
                    attributes.add(node.attr)
        self.assertEqual(methods & attributes, set())

    def test_l19_errors(self):
        for name, text, tree in self.each():
            for node in ast.walk(tree):
                if isinstance(node, ast.ExceptHandler):
                    self.assertIsInstance(node.type, ast.Name, name)
                    self.assertFalse(hasattr(builtins, node.type.id), (name, node.lineno))
                if isinstance(node, ast.Raise) and node.exc is not None:
                    self.assertIsInstance(node.exc, ast.Call, (name, node.lineno))
                if isinstance(node, ast.FunctionDef):
                    told = [each.name for each in ast.walk(node) if isinstance(each, ast.ExceptHandler) and each.name]
                    self.assertEqual(len(told), len(set(told)), (name, node.name))

    def test_l22_l23_builtins(self):
        for name, text, tree in self.each():
            above = {child: node for node in ast.walk(tree) for child in ast.iter_child_nodes(node)}
            for node in ast.walk(tree):
                if isinstance(node, ast.Call) and isinstance(node.func, ast.Name) and hasattr(builtins, node.func.id):
                    for keyword in node.keywords:
                        self.assertIn(keyword.arg, KEYWORDS.get(node.func.id, set()), (name, node.lineno))
                    if node.func.id in AT_ONCE:
                        self.assertTrue(at_once(node, above[node]), (name, node.lineno))
                if isinstance(node, ast.Name) and hasattr(builtins, node.id) and node.id in TAKERS | {"len", "min", "max"}:
                    caller = above[node]
                    self.assertTrue(isinstance(caller, ast.Call), (name, node.lineno))

    def test_l24_sets(self):
        for name, text, tree in self.each():
            above = {child: node for node in ast.walk(tree) for child in ast.iter_child_nodes(node)}
            for node in ast.walk(tree):
                self.assertNotIsInstance(node, (ast.Set, ast.SetComp), name)
                if isinstance(node, ast.Call) and isinstance(node.func, ast.Name) and node.func.id == "set":
                    self.assertIn(above[node].func.id, ("len", "sorted"), (name, node.lineno))

    def test_l25_methods(self):
        own = set()
        for name, text, tree in self.each():
            for node in ast.walk(tree):
                if isinstance(node, ast.ClassDef):
                    own.update([row.name for row in node.body if isinstance(row, ast.FunctionDef)])
        for name, text, tree in self.each():
            for node in ast.walk(tree):
                if isinstance(node, ast.Call) and isinstance(node.func, ast.Attribute):
                    self.assertIn(node.func.attr, own | BUILT_IN, (name, node.lineno))
                    if node.func.attr in BUILT_IN:
                        self.assertEqual(node.keywords, [], (name, node.lineno))

    def test_l28_doubles(self):
        for name, text, tree in self.each():
            for node in ast.walk(tree):
                if isinstance(node, ast.FunctionDef) and node.name in DOUBLES - {"__init__"}:
                    self.assertIsInstance(node.body[-1], ast.Return, (name, node.name))
                    for part in ast.walk(node):
                        self.assertNotIsInstance(part, (ast.Assign, ast.AugAssign, ast.Delete), (name, node.name))
                if isinstance(node, ast.FunctionDef) and node.name in ("__str__", "__len__"):
                    self.assertEqual(node.body[-1].value.func.id, {"__str__": "str", "__len__": "len"}[node.name])

    def test_l7_l27_values(self):
        for name, text, tree in self.each():
            for node in ast.walk(tree):
                self.assertNotIsInstance(node, (ast.Div, ast.GeneratorExp, ast.Global, ast.Pow), name)
                if isinstance(node, ast.Constant):
                    self.assertNotIsInstance(node.value, (float, complex), name)
                    self.assertFalse(isinstance(node.value, str) and "%" in node.value, name)

    def test_l17_words(self):
        for name, text, tree in self.each():
            self.assertIsNone(BARRED.search(text), name)

    def test_l20_is(self):
        for name, text, tree in self.each():
            for node in ast.walk(tree):
                if isinstance(node, ast.Compare):
                    for sign, side in zip(node.ops, node.comparators):
                        if isinstance(sign, (ast.Is, ast.IsNot)):
                            self.assertTrue(isinstance(side, ast.Constant) and side.value in (None, True, False), name)


def at_once(node, above):
    """Whether a call that is to be iterated on the spot stands where that is done."""
    if isinstance(above, (ast.For, ast.comprehension)):
        return above.iter == node
    if isinstance(above, ast.Call) and isinstance(above.func, ast.Name):
        return above.func.id in TAKERS and above.args[0] == node or above.func.id in ("min", "max")
    return False


def bound(tree, with_imports):
    """The names that a file binds at module level."""
    names = []
    for row in tree.body:
        if isinstance(row, (ast.FunctionDef, ast.ClassDef)):
            names.append(row.name)
        elif isinstance(row, ast.Assign):
            names.extend([target.id for target in row.targets])
        elif isinstance(row, ast.ImportFrom) and with_imports:
            names.extend([each.asname or each.name for each in row.names])
    return names


if __name__ == "__main__":
    unittest.main()
