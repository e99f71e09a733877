"""The rules of LANGUAGE.md that a look at the text, or at its tree, can tell."""

import ast
import builtins
import pathlib
import re
import unittest

PACKAGE = pathlib.Path(__file__).resolve().parent.parent / "passmill"
BARRED_WORDS = (
    "type", "typing", "typing_extensions", "enum", "Enum", "IntEnum", "StrEnum", "Flag", "IntFlag", "Generic",
    "Protocol", "ABC", "ABCMeta", "namedtuple", "NamedTuple", "TypedDict", "TYPE_CHECKING", "abstractmethod",
)
BARRED_PARTS = ("dataclass", "overload", "contextmanager")
BARRED_NAMES = (
    "register", "mro", "elements", "open", "input", "version_info", "with_traceback", "add_note", "format",
    "format_map", "chr", "eval", "exec", "getattr", "setattr", "hasattr", "globals", "locals", "vars", "print",
)
# L8, without those that stand in __main__.py alone, or that another rule bars.
BUILTINS = (
    "len", "range", "enumerate", "zip", "min", "max", "sum", "abs", "sorted", "reversed", "int", "str", "bool", "list",
    "tuple", "dict", "set", "isinstance", "ord", "repr", "any", "all", "divmod", "iter", "next", "super",
    "ValueError", "KeyError", "TypeError", "IndexError", "LookupError", "NotImplemented",
)
# L25, its first list.
METHODS = (
    "append", "clear", "copy", "count", "endswith", "extend", "find", "get", "index", "insert", "isalnum", "isalpha",
    "isdigit", "islower", "isspace", "isupper", "items", "join", "keys", "ljust", "lower", "lstrip", "partition", "pop",
    "remove", "replace", "reverse", "rfind", "rjust", "rpartition", "rsplit", "rstrip", "setdefault", "split",
    "splitlines", "startswith", "strip", "update", "upper", "values", "zfill", "bit_length",
)
BARRED_NODES = (
    ast.Global, ast.AsyncFunctionDef, ast.AsyncFor, ast.AsyncWith, ast.Await, ast.Import, ast.Div, ast.MatMult,
)


def names_in(node):
    """Every name that a node of a tree binds or reads."""
    fields = ("id", "attr", "name", "arg", "asname")
    return [getattr(node, field) for field in fields if isinstance(getattr(node, field, None), str)]


class LanguageTest(unittest.TestCase):
    def setUp(self):
        self.files = sorted(path for path in PACKAGE.iterdir() if path.name != "__pycache__")
        self.texts = {path.name: path.read_text(encoding="utf-8") for path in self.files}
        self.nodes = [(name, node) for name in self.texts for node in ast.walk(ast.parse(self.texts[name]))]

    def test_files(self):
        self.assertIn("__init__.py", self.texts)
        for path in self.files:
            self.assertTrue(path.is_file(), path)
            self.assertRegex(path.name, r"^([a-z][a-z0-9_]*|__init__)\.py$")

    def test_signs_and_sizes(self):
        for name, text in self.texts.items():
            self.assertIsNone(re.search(r"[^ -~\n]", text), name)
            lines = text.split("\n")
            self.assertLessEqual(len(lines), 400, name)
            self.assertLessEqual(max(map(len, lines)), 120, name)

    def test_functions_are_small(self):
        for name, node in self.nodes:
            if isinstance(node, ast.FunctionDef):
                self.assertLessEqual(node.end_lineno - node.lineno + 1, 40, (name, node.name))

    def test_barred_words(self):
        for name, text in self.texts.items():
            words = re.findall(r"[A-Za-z0-9_]+", text)
            self.assertEqual([word for word in words if word in BARRED_WORDS], [], name)
            self.assertEqual([part for part in BARRED_PARTS if part in text], [], name)

    def test_names(self):
        for name, node in self.nodes:
            for told in names_in(node):
                self.assertNotIn(told, BARRED_NAMES, name)
                self.assertTrue(not told.startswith("_") or re.match(r"^__[a-z]+__$", told), (name, told))

    def test_builtins(self):
        for name, node in self.nodes:
            if isinstance(node, ast.Name) and hasattr(builtins, node.id):
                self.assertIn(node.id, BUILTINS, name)
                self.assertIsInstance(node.ctx, ast.Load, (name, node.id))
            if isinstance(node, ast.arg):
                self.assertFalse(hasattr(builtins, node.arg), (name, node.arg))

    def test_methods(self):
        # Stored sets have two more (L24).
        own = [node.name for name, node in self.nodes if isinstance(node, ast.FunctionDef)]
        for name, node in self.nodes:
            if isinstance(node, ast.Call) and isinstance(node.func, ast.Attribute):
                self.assertIn(node.func.attr, (*METHODS, *own, "add", "discard"), name)

    def test_no_two_files_import_from_each_other(self):
        needs = {name[:-3]: set() for name in self.texts}
        for name, node in self.nodes:
            if isinstance(node, ast.ImportFrom) and node.module.startswith("passmill."):
                needs[name[:-3]].add(node.module[len("passmill."):])
        while needs:
            free = [name for name in needs if not needs[name] & set(needs)]
            self.assertTrue(free, needs)
            for name in free:
                del needs[name]

    def test_no_name_is_a_method_and_an_attribute(self):
        methods, attributes = set(), set()
        for name, node in self.nodes:
            if isinstance(node, ast.ClassDef):
                methods.update(part.name for part in node.body if isinstance(part, ast.FunctionDef))
            if isinstance(node, ast.Attribute) and isinstance(node.ctx, ast.Store):
                attributes.add(node.attr)
        self.assertEqual(methods & attributes, set())
        self.assertEqual((methods - {"__init__", "__len__", "__str__"}) & set(METHODS), set())

    def test_no_local_name_is_that_of_an_import_or_class(self):
        for name, text in self.texts.items():
            tree = ast.parse(text)
            barred = {alias.name for node in tree.body if isinstance(node, ast.ImportFrom) for alias in node.names}
            barred |= {node.name for node in tree.body if isinstance(node, ast.ClassDef)}
            for node in ast.walk(tree):
                if isinstance(node, ast.arg):
                    self.assertNotIn(node.arg, barred, name)
                if isinstance(node, ast.Name) and isinstance(node.ctx, ast.Store):
                    self.assertNotIn(node.id, barred, name)

    def test_names_are_bound_once_in_each_file(self):
        for name, text in self.texts.items():
            bound = []
            for node in ast.parse(text).body:
                if isinstance(node, ast.ImportFrom):
                    bound.extend(alias.asname or alias.name for alias in node.names)
                elif isinstance(node, ast.Assign):
                    bound.extend(target.id for target in node.targets)
                elif isinstance(node, (ast.FunctionDef, ast.ClassDef)):
                    bound.append(node.name)
            self.assertEqual(len(bound), len(set(bound)), name)

    def test_imports(self):
        for name, node in self.nodes:
            if isinstance(node, ast.ImportFrom):
                self.assertEqual(node.level, 0, name)
                self.assertRegex(node.module, r"^(passmill\.[a-z_]+|__future__)$", name)
                self.assertNotIn("*", [alias.name for alias in node.names], name)

    def test_statements(self):
        for name, node in self.nodes:
            self.assertNotIsInstance(node, BARRED_NODES, name)
            if isinstance(node, ast.Constant):
                self.assertNotIsInstance(node.value, (float, complex), name)
                self.assertNotIn("%", str(node.value), name)
            if isinstance(node, ast.Compare) and isinstance(node.ops[0], (ast.Is, ast.IsNot)):
                self.assertIsInstance(node.comparators[0], ast.Constant, name)


if __name__ == "__main__":
    unittest.main()
