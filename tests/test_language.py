"""The rules of the language that can be seen in the text of a file, by number."""

import ast
import builtins
import pathlib
import re
import unittest

PACKAGE = pathlib.Path(__file__).resolve().parent.parent / "farbits"

BUILTINS = set("""
    len range enumerate zip min max sum abs sorted reversed int str bool bytes list
    tuple dict set frozenset isinstance ord repr any all divmod iter next map super
    property staticmethod classmethod object Exception ValueError TypeError KeyError
    IndexError LookupError ZeroDivisionError ArithmeticError OverflowError RuntimeError
    NotImplementedError AttributeError StopIteration NotImplemented
""".split())
METHODS = set("""
    append clear copy count endswith extend find get index insert isalnum isalpha isdigit
    islower isspace isupper items join keys ljust lower lstrip partition pop remove replace
    reverse rfind rjust rpartition rsplit rstrip setdefault split splitlines startswith
    strip update upper values zfill bit_length
""".split())
FOLDING = set("any all sum min max sorted".split())
BARRED_NODES = (
    ast.Global, ast.AsyncFunctionDef, ast.AsyncFor, ast.AsyncWith, ast.Await, ast.Div,
    ast.Import, ast.MatMult,
)
BARRED_NAMES = set("register mro elements open input law version_info".split())
BARRED_WORDS = re.compile(
    r"_wall|_WallAttr|\b(type|typing|enum|Enum|IntEnum|Flag|Generic|Protocol|ABC|namedtuple)\b")


def files():
    return sorted(PACKAGE.glob("**/*.py"))


def module_names(tree):
    for node in tree.body:
        if isinstance(node, (ast.FunctionDef, ast.ClassDef)):
            yield node.name
        elif isinstance(node, ast.ImportFrom):
            for alias in node.names:
                yield alias.asname or alias.name
        elif isinstance(node, ast.Assign):
            yield node.targets[0].id


def local_names(tree):
    for node in ast.walk(tree):
        if isinstance(node, ast.arg):
            yield node.arg
        elif isinstance(node, ast.ExceptHandler) and node.name:
            yield node.name
        elif isinstance(node, ast.FunctionDef):
            for inner in ast.walk(node):
                if isinstance(inner, ast.Name) and isinstance(inner.ctx, ast.Store):
                    yield inner.id


class Language(unittest.TestCase):
    def each_file(self):
        for path in files():
            text = path.read_text(encoding="utf-8")
            with self.subTest(file=path.name):
                yield path, text, ast.parse(text)

    def test_l1_files(self):
        for path in PACKAGE.glob("**/*"):
            if "__pycache__" not in path.parts:
                self.assertRegex(path.name, r"^[a-z0-9_]+\.py$")
        self.assertIn(PACKAGE / "__init__.py", files())

    def test_l2_l16_imports(self):
        defined = {}
        for path in files():
            tree = ast.parse(path.read_text())
            defined["farbits." + path.stem] = [
                node.name for node in tree.body
                if isinstance(node, (ast.FunctionDef, ast.ClassDef))
            ] + [node.targets[0].id for node in tree.body if isinstance(node, ast.Assign)]
        for _, _, tree in self.each_file():
            for node in ast.walk(tree):
                if isinstance(node, ast.ImportFrom):
                    self.assertIn(node, tree.body)
                    self.assertEqual(node.level, 0)
                    for alias in node.names:
                        self.assertIn(alias.name, defined[node.module])

    def test_l10_l14_lengths_and_characters(self):
        for _, text, tree in self.each_file():
            lines = text.split("\n")
            self.assertLessEqual(len(lines), 399)
            self.assertLessEqual(max(len(line) for line in lines), 120)
            self.assertRegex(text, r"^[ -~\n]*$")
            for node in ast.walk(tree):
                if isinstance(node, ast.FunctionDef):
                    self.assertLessEqual(node.end_lineno - node.lineno + 1, 40)

    def test_l3_l15_names_are_bound_once(self):
        for _, _, tree in self.each_file():
            names = list(module_names(tree))
            self.assertEqual(len(names), len(set(names)))
            imported = [alias.asname or alias.name for node in tree.body
                        if isinstance(node, ast.ImportFrom) for alias in node.names]
            classes = [node.name for node in tree.body if isinstance(node, ast.ClassDef)]
            for name in local_names(tree):
                self.assertNotIn(name, imported + classes)
                self.assertNotIn(name, dir(builtins))
            for name in names:
                self.assertNotIn(name, dir(builtins))

    def test_l6_l7_l9_statements_and_signs(self):
        for _, _, tree in self.each_file():
            for node in ast.walk(tree):
                self.assertNotIsInstance(node, BARRED_NODES)
                if isinstance(node, ast.Constant):
                    self.assertNotIsInstance(node.value, float)
                if isinstance(node, ast.AugAssign):
                    self.assertIsInstance(node.op, (ast.Add, ast.Sub))
                    self.assertIsInstance(node.value, ast.Constant)
                if isinstance(node, ast.BinOp) and isinstance(node.op, ast.Pow):
                    self.assertIsInstance(node.right, ast.Constant)

    def test_l8_l17_builtins_and_names(self):
        for _, text, tree in self.each_file():
            known = BUILTINS | set(module_names(tree)) | set(local_names(tree))
            for node in ast.walk(tree):
                if isinstance(node, ast.Name):
                    self.assertIn(node.id, known)
                    self.assertNotIn(node.id, BARRED_NAMES)
            self.assertIsNone(BARRED_WORDS.search(text))

    def test_l25_methods_of_builtin_values(self):
        own = {node.name for path in files() for node in ast.walk(ast.parse(path.read_text()))
               if isinstance(node, ast.FunctionDef)}
        for _, _, tree in self.each_file():
            for node in ast.walk(tree):
                if isinstance(node, ast.Call) and isinstance(node.func, ast.Attribute):
                    self.assertIn(node.func.attr, METHODS | own | {"__init__"})

    def test_l5_l7_builtins_beside_classes_that_compare(self):
        for _, _, tree in self.each_file():
            for node in ast.walk(tree):
                if not isinstance(node, ast.Call):
                    continue
                if isinstance(node.func, ast.Attribute):
                    self.assertNotEqual(node.func.attr, "sort")
                elif isinstance(node.func, ast.Name) and node.func.id in FOLDING:
                    self.assertNotIsInstance(node.args[0], ast.GeneratorExp)

    def test_l5_classes_with_items_are_not_iterated_over(self):
        for _, _, tree in self.each_file():
            for node in ast.walk(tree):
                if isinstance(node, ast.ClassDef):
                    names = [inner.name for inner in node.body if isinstance(inner, ast.FunctionDef)]
                    self.assertEqual(len(names), len(set(names)))
                    if "__getitem__" in names:
                        self.assertIn("__iter__", names)

    def test_l27_strings(self):
        for _, _, tree in self.each_file():
            for node in ast.walk(tree):
                if isinstance(node, ast.Constant) and isinstance(node.value, str):
                    self.assertNotIn("%", node.value)

    def test_l19_handlers_name_their_errors(self):
        for _, _, tree in self.each_file():
            for node in ast.walk(tree):
                if isinstance(node, ast.ExceptHandler):
                    self.assertIsNotNone(node.type)


if __name__ == "__main__":
    unittest.main()
