"""The package keeps to the rules of the language subset, as far as they are seen from the code's shape."""

import ast
import pathlib
import re
import unittest

PACKAGE = pathlib.Path(__file__).resolve().parent.parent / "slotwright"
FILES = sorted(path for path in PACKAGE.rglob("*") if path.is_file() and "__pycache__" not in path.parts)

BUILTINS = set("""len range enumerate zip min max sum abs sorted reversed int str bool bytes list tuple dict set frozenset
    isinstance ord repr any all divmod super Exception ValueError TypeError KeyError IndexError LookupError
    ZeroDivisionError ArithmeticError OverflowError RuntimeError NotImplementedError AttributeError StopIteration
    property staticmethod classmethod""".split())
PYTHON_NAMES = set(dir(__import__("builtins")))
DOUBLE = {"__init__", "__eq__", "__repr__", "__str__", "__len__", "__enter__", "__exit__"}
# A generator expression is not barred everywhere, but where a class has __eq__ hardly any place is left for one.
BARRED_NODES = (ast.Global, ast.AsyncFunctionDef, ast.AsyncFor, ast.AsyncWith, ast.Await, ast.NamedExpr, ast.Div,
                ast.MatMult, ast.Import, ast.TryStar, ast.GeneratorExp)
BARRED_WORDS = re.compile(r"\b(type|typing|typing_extensions|enum|Enum|IntEnum|StrEnum|Flag|IntFlag|Generic|Protocol|ABC|"
                          r"ABCMeta|namedtuple|NamedTuple|TypedDict|TYPE_CHECKING|abstractmethod)\b"
                          r"|dataclass|overload|contextmanager")
BARRED_NAMES = {"register", "mro", "elements", "open", "input", "version_info", "with_traceback", "add_note", "format",
                "format_map", "chr", "eval", "exec", "getattr", "setattr", "hasattr", "delattr", "vars", "globals", "locals"}
INTERFACE = {
    "errors.py": (), "spans.py": (), "frames.py": ("Frame.__init__", "Frame.__str__", "Frame.__eq__"),
    "net.py": tuple("Net." + name for name in (
        "house", "gate", "line", "drop", "names", "kind", "ends", "twin", "__len__", "__eq__")),
    "tables.py": tuple("Table." + name for name in ("__init__", "told", "of", "__len__", "__eq__")),
    "clocks.py": tuple("Clocks." + name for name in ("__init__", "turn", "fall", "rise", "told", "width")),
    "bench.py": tuple("Bench." + name for name in (
        "__init__", "now", "go", "sent", "cut", "mend", "hush", "wake", "twin")),
    "hall.py": tuple("Hall." + name for name in (
        "__init__", "house", "gate", "line", "drop", "put", "squeeze", "nudge", "take", "slacken", "replan", "undo", "redo",
        "twin", "net_now", "frames_now", "table_now", "slack_now", "moved")),
}


def names_of(node):
    """The names that the node itself bears."""
    if isinstance(node, ast.Name):
        return [node.id]
    if isinstance(node, ast.Attribute):
        return [node.attr]
    if isinstance(node, (ast.FunctionDef, ast.ClassDef)):
        return [node.name]
    if isinstance(node, ast.arg):
        return [node.arg]
    if isinstance(node, (ast.alias, ast.keyword)):
        return [node.name if isinstance(node, ast.alias) else node.arg]
    return []


def bound_names(tree):
    """Every parameter and assigned variable within the functions of a file."""
    found = []
    for node in ast.walk(tree):
        if isinstance(node, ast.arg):
            found.append(node.arg)
        if isinstance(node, ast.Name) and isinstance(node.ctx, ast.Store):
            found.append(node.id)
    return found


def methods_and_attributes():
    """All names of methods, and all names of attributes that are assigned, in the whole package."""
    methods, attributes = set(), set()
    for path in FILES:
        for node in ast.walk(ast.parse(path.read_text())):
            if isinstance(node, ast.ClassDef):
                methods |= {row.name for row in node.body if isinstance(row, ast.FunctionDef)}
            if isinstance(node, ast.Attribute) and isinstance(node.ctx, ast.Store):
                attributes.add(node.attr)
    return methods, attributes


class Language(unittest.TestCase):
    def each_file(self):
        for path in FILES:
            with self.subTest(file=path.name):
                yield path, path.read_text(), ast.parse(path.read_text())

    def test_files(self):
        self.assertTrue(FILES)
        for path in FILES:
            self.assertRegex(path.name, r"^[a-z][a-z0-9_]*\.py$|^__(init|main)__\.py$")

    def test_sizes(self):
        for path, text, tree in self.each_file():
            self.assertLessEqual(len(text.splitlines()), 400)
            self.assertLessEqual(max([0] + [len(row) for row in text.splitlines()]), 120)
            for node in ast.walk(tree):
                if isinstance(node, ast.FunctionDef):
                    self.assertLessEqual(node.end_lineno - node.lineno + 1, 40, node.name)

    def test_characters_and_words(self):
        for path, text, tree in self.each_file():
            self.assertEqual([sign for sign in text if not (" " <= sign <= "~" or sign == "\n")], [])
            self.assertIsNone(BARRED_WORDS.search(text))
            for node in ast.walk(tree):
                if isinstance(node, ast.Constant):
                    self.assertNotIsInstance(node.value, (float, complex))
                    self.assertNotIn("%", node.value if isinstance(node.value, str) else "")

    def test_imports(self):
        for path, text, tree in self.each_file():
            for node in ast.walk(tree):
                if isinstance(node, ast.ImportFrom) and node.module != "__future__":
                    self.assertEqual(node.level, 0)
                    self.assertTrue(node.module.startswith("slotwright."), node.module)
                    defined = ast.parse((PACKAGE / (node.module.split(".")[1] + ".py")).read_text()).body
                    own = [name for row in defined for name in names_of(row)]
                    own += [name for row in defined if isinstance(row, ast.Assign) for name in names_of(row.targets[0])]
                    own += [name for row in defined if isinstance(row, ast.AnnAssign) for name in names_of(row.target)]
                    self.assertLessEqual({alias.name for alias in node.names}, set(own))

    def test_module_level(self):
        for path, text, tree in self.each_file():
            for at, row in enumerate(tree.body):
                docstring = at == 0 and isinstance(row, ast.Expr)
                self.assertTrue(docstring or isinstance(row, (
                    ast.ImportFrom, ast.FunctionDef, ast.ClassDef, ast.Assign, ast.AnnAssign)))

    def test_statements_and_expressions(self):
        for path, text, tree in self.each_file():
            for node in ast.walk(tree):
                self.assertNotIsInstance(node, BARRED_NODES)
                if isinstance(node, ast.FunctionDef):
                    self.assertEqual(node.args.posonlyargs, [])
                if isinstance(node, ast.Compare):
                    for sign, value in zip(node.ops, node.comparators):
                        if isinstance(sign, (ast.Is, ast.IsNot)):
                            self.assertIn(getattr(value, "value", "none of the three"), (None, True, False))

    def test_names(self):
        for path, text, tree in self.each_file():
            for node in ast.walk(tree):
                for name in names_of(node):
                    self.assertNotIn(name, BARRED_NAMES)
                    self.assertTrue(name in DOUBLE or re.match(r"^[A-Za-z][A-Za-z0-9_]*$", name), name)
                if isinstance(node, ast.Name) and node.id in PYTHON_NAMES:
                    self.assertIn(node.id, BUILTINS)
            taken = PYTHON_NAMES | {alias.name for node in tree.body if isinstance(node, ast.ImportFrom)
                                    for alias in node.names}
            taken |= {node.name for node in tree.body if isinstance(node, ast.ClassDef)}
            self.assertEqual([name for name in bound_names(tree) if name in taken], [])

    def test_no_name_is_a_method_and_an_attribute(self):
        methods, attributes = methods_and_attributes()
        self.assertEqual(methods & attributes, set())

    def test_listed_methods_stand_in_their_class_itself(self):
        for file, wanted in INTERFACE.items():
            tree = ast.parse((PACKAGE / file).read_text())
            found = {f"{node.name}.{row.name}" for node in tree.body if isinstance(node, ast.ClassDef)
                     for row in node.body if isinstance(row, ast.FunctionDef)}
            self.assertLessEqual(set(wanted), found)


if __name__ == "__main__":
    unittest.main()
