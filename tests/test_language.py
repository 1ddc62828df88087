"""Rules of the language that can be read off the files of the package; [4]: no clock, chance or files."""

import ast
import pathlib
import re
import unittest

import kindsgathered

FOLDER = pathlib.Path(kindsgathered.__file__).parent

BUILTINS = {
    "len", "range", "enumerate", "zip", "min", "max", "sum", "abs", "sorted", "reversed", "int", "str", "bool",
    "list", "tuple", "dict", "set", "isinstance", "ord", "repr", "any", "all", "divmod", "ValueError", "KeyError",
    "super",
}

# Methods of builtin values that the rules allow and the package has use for.
METHODS = {"append", "count", "items", "join", "keys", "partition", "pop", "split", "values"}

BARRED_WORDS = (
    "type", "typing", "typing_extensions", "enum", "Enum", "IntEnum", "StrEnum", "Flag", "IntFlag", "Generic",
    "Protocol", "ABC", "ABCMeta", "namedtuple", "NamedTuple", "TypedDict", "TYPE_CHECKING", "abstractmethod")

BARRED_NODES = (
    ast.Global, ast.AsyncFunctionDef, ast.AsyncFor, ast.AsyncWith, ast.Await, ast.Import, ast.Div, ast.Starred,
    ast.AnnAssign)


def files():
    return sorted(FOLDER.glob("*.py"))


def nodes(path):
    return list(ast.walk(ast.parse(path.read_text(encoding="ascii"))))


def bound_names(path):
    """Each name that the file itself gives a meaning."""
    found = set()
    for node in nodes(path):
        if isinstance(node, (ast.FunctionDef, ast.ClassDef)):
            found.add(node.name)
        elif isinstance(node, ast.arg):
            found.add(node.arg)
        elif isinstance(node, ast.Name) and isinstance(node.ctx, ast.Store):
            found.add(node.id)
        elif isinstance(node, ast.alias):
            found.add(node.asname or node.name)
    return found


def imported_files(path):
    return {node.module.split(".")[1] for node in nodes(path) if isinstance(node, ast.ImportFrom)}


class Language(unittest.TestCase):

    def test_the_folder_has_nothing_but_plain_files(self):
        for path in FOLDER.iterdir():
            if path.name != "__pycache__":
                self.assertRegex(path.name, r"^([a-z][a-z0-9_]*|__init__|__main__)\.py$")

    def test_characters_and_sizes(self):
        for path in files():
            data = path.read_bytes()
            self.assertTrue(all(sign == 10 or 32 <= sign <= 126 for sign in data), path)
            lines = data.decode("ascii").split("\n")
            self.assertLessEqual(len(lines), 399, path)
            self.assertLessEqual(max(len(line) for line in lines), 120, path)
            for node in nodes(path):
                if isinstance(node, ast.FunctionDef):
                    self.assertLessEqual(node.end_lineno - node.lineno + 1, 40, node.name)

    def test_barred_words(self):
        for path in files():
            text = path.read_text(encoding="ascii")
            for word in BARRED_WORDS:
                self.assertIsNone(re.search(rf"\b{word}\b", text), (path, word))
            for word in ("dataclass", "overload", "contextmanager"):
                self.assertNotIn(word, text)

    def test_imports_come_from_the_package_alone(self):
        for path in files():
            for node in nodes(path):
                if isinstance(node, ast.ImportFrom):
                    self.assertEqual(node.level, 0, path)
                    self.assertTrue(node.module.startswith("kindsgathered."), (path, node.module))
                    source = FOLDER / (node.module.split(".")[1] + ".py")
                    self.assertLessEqual({alias.name for alias in node.names}, bound_names(source))

    def test_no_two_files_import_from_each_other(self):
        ahead = {path.stem: imported_files(path) for path in files()}
        for step in range(len(ahead)):
            ahead = {name: found.union(*[ahead[other] for other in found]) for name, found in ahead.items()}
        for name, found in ahead.items():
            self.assertNotIn(name, found)

    def test_no_other_thing_has_the_name_of_an_import_or_a_class(self):
        for path in files():
            kept = {node.name for node in nodes(path) if isinstance(node, (ast.ClassDef, ast.alias))}
            others = {node.arg for node in nodes(path) if isinstance(node, ast.arg)}
            others |= {
                node.id for node in nodes(path) if isinstance(node, ast.Name) and isinstance(node.ctx, ast.Store)}
            self.assertEqual(kept & others, set(), path)

    def test_exponents_are_written_out(self):
        for path in files():
            for node in nodes(path):
                if isinstance(node, ast.BinOp) and isinstance(node.op, ast.Pow):
                    self.assertIsInstance(node.right, ast.Constant, path)

    def test_barred_statements_and_floats(self):
        for path in files():
            for node in nodes(path):
                self.assertNotIsInstance(node, BARRED_NODES, path)
                if isinstance(node, ast.Constant):
                    self.assertNotIsInstance(node.value, (float, complex), path)
                if isinstance(node, (ast.FunctionDef, ast.ClassDef)):
                    self.assertEqual(node.decorator_list, [], node.name)

    def test_names_are_plain_and_known(self):
        for path in files():
            own = bound_names(path)
            for name in own - {"__init__"}:
                self.assertRegex(name, r"^[A-Za-z][A-Za-z0-9_]*$")
            self.assertEqual(own & BUILTINS, set(), path)
            read = {node.id for node in nodes(path) if isinstance(node, ast.Name)}
            self.assertLessEqual(read, own | BUILTINS, path)

    def test_methods_and_attributes_are_known(self):
        own, read = {"__init__"}, set()
        for path in files():
            for node in nodes(path):
                if isinstance(node, ast.ClassDef):
                    own |= {each.name for each in node.body if isinstance(each, ast.FunctionDef)}
                elif isinstance(node, ast.Attribute) and isinstance(node.ctx, ast.Store):
                    own.add(node.attr)
                elif isinstance(node, ast.Attribute):
                    read.add(node.attr)
        self.assertLessEqual(read, own | METHODS)
        self.assertEqual(own & METHODS, set())

    def test_no_percent_sign_in_a_string(self):
        for path in files():
            for node in nodes(path):
                if isinstance(node, ast.Constant) and isinstance(node.value, str):
                    self.assertNotIn("%", node.value, path)


if __name__ == "__main__":
    unittest.main()
