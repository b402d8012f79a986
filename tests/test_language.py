"""The rules of the language that can be told of the program's text at a glance."""

import ast
import builtins
import pathlib
import re
import unittest

import unseenstocks
from unseenstocks import errors

PACKAGE = pathlib.Path(unseenstocks.__file__).parent
BUILTINS = set(
    "len range enumerate zip min max sum abs sorted reversed int str bool list tuple dict set isinstance ord repr any"
    " all divmod ValueError TypeError NotImplemented".split())
METHODS = set(
    "append clear copy count endswith extend find get index insert isalnum isalpha isdigit islower isspace isupper"
    " items join keys ljust lower lstrip partition pop remove replace reverse rfind rjust rpartition rsplit rstrip"
    " setdefault split splitlines startswith strip update upper values zfill bit_length isascii".split())
DOUBLE = set("__init__ __eq__ __len__ __or__ __contains__ __getitem__ __iter__ __enter__ __exit__".split())
LIBRARY = {"math": ("gcd",)}
BARRED_NODES = (
    ast.AsyncFunctionDef, ast.Global, ast.Await, ast.GeneratorExp, ast.Div, ast.Import,
    ast.AnnAssign, ast.Yield, ast.YieldFrom, ast.NamedExpr)
BARRED_WORDS = set(
    "type typing enum Enum IntEnum Flag Generic Protocol ABC namedtuple NamedTuple TypedDict register mro elements"
    " open input law eval exec globals locals vars id dir help super".split())


def sources():
    for path in sorted(PACKAGE.rglob("*.py")):
        yield path, path.read_text(encoding="utf-8")


class Language(unittest.TestCase):
    def test_files_and_lines(self):
        files = [path for path in PACKAGE.rglob("*") if "__pycache__" not in path.parts]
        self.assertEqual([path for path in files if path.suffix != ".py"], [])
        for path, text in sources():
            lines = text.split("\n")
            self.assertLessEqual(len(lines), 399, path)
            self.assertLessEqual(max(map(len, lines)), 120, path)
            self.assertTrue(re.fullmatch(r"[ -~\n]*", text), path)
            self.assertNotIn("%", text, path)
            self.assertFalse(re.search(r"[(]type[)]|Meta|metaclass=", text), path)

    def test_functions(self):
        for path, text in sources():
            for node in ast.walk(ast.parse(text)):
                if isinstance(node, ast.FunctionDef):
                    self.assertLessEqual(node.end_lineno - node.lineno + 1, 40, (path, node.name))
                    self.assertEqual(node.decorator_list, [], (path, node.name))
                    self.assertIsNone(node.returns, (path, node.name))
                    self.assertTrue(not node.name.startswith("__") or node.name in DOUBLE, (path, node.name))

    def test_module_level(self):
        for path, text in sources():
            for node in ast.parse(text).body:
                doc = isinstance(node, ast.Expr) and isinstance(node.value, ast.Constant)
                kinds = (ast.ImportFrom, ast.FunctionDef, ast.ClassDef, ast.Assign)
                self.assertTrue(doc or isinstance(node, kinds), (path, node.lineno))
                if isinstance(node, ast.Assign):
                    ast.literal_eval(node.value)

    def test_imports(self):
        defined = {}
        for path, text in sources():
            names = set()
            for node in ast.parse(text).body:
                names.update([node.name] if hasattr(node, "name") else [])
                names.update(target.id for target in getattr(node, "targets", []))
            defined[f"unseenstocks.{path.stem}"] = names
        for path, text in sources():
            for node in ast.walk(ast.parse(text)):
                if isinstance(node, ast.ImportFrom):
                    found = LIBRARY.get(node.module, ()) or defined.get(node.module, ())
                    for alias in node.names:
                        self.assertIn(alias.name, found, (path, node.lineno))

    def test_words(self):
        for path, text in sources():
            for node in ast.walk(ast.parse(text)):
                self.assertNotIsInstance(node, BARRED_NODES, (path, getattr(node, "lineno", 0)))
                for field in ("id", "attr", "arg", "name"):
                    self.assertNotIn(getattr(node, field, None), BARRED_WORDS, (path, getattr(node, "lineno", 0)))

    def test_errors_that_are_caught(self):
        for path, text in sources():
            for node in ast.walk(ast.parse(text)):
                if isinstance(node, ast.Try):
                    self.assertEqual((node.orelse, node.finalbody), ([], []), (path, node.lineno))
                    for handler in node.handlers:
                        self.assertIn(handler.type.id, vars(errors), (path, node.lineno))

    def test_what_stands_behind_a_block(self):
        for path, text in sources():
            for node in ast.walk(ast.parse(text)):
                if isinstance(node, ast.FunctionDef) and node.name == "__exit__":
                    self.assertEqual([one.arg for one in node.args.args], ["self", "kind", "value", "trace"])
                    for one in ast.walk(node):
                        self.assertNotIsInstance(one, (ast.Call, ast.Return, ast.For, ast.Subscript), (path, node.lineno))
                        self.assertFalse(isinstance(one, ast.Name) and one.id in ("value", "trace"), (path, node.lineno))

    def test_local_names(self):
        for path, text in sources():
            tree = ast.parse(text)
            taken = set(dir(builtins)) | {node.name for node in tree.body if isinstance(node, ast.ClassDef)}
            taken.update(alias.name for node in tree.body if isinstance(node, ast.ImportFrom) for alias in node.names)
            for node in ast.walk(tree):
                if isinstance(node, ast.arg):
                    self.assertNotIn(node.arg, taken, (path, node.lineno))
                if isinstance(node, ast.Name) and isinstance(node.ctx, ast.Store):
                    self.assertNotIn(node.id, taken, (path, node.lineno))

    def test_calls(self):
        classes = [node for _, text in sources() for node in ast.parse(text).body if isinstance(node, ast.ClassDef)]
        methods = {node.name for owner in classes for node in owner.body if isinstance(node, ast.FunctionDef)}
        for path, text in sources():
            tree = ast.parse(text)
            own = {node.name for node in tree.body if hasattr(node, "name")}
            own.update(alias.name for node in tree.body if isinstance(node, ast.ImportFrom) for alias in node.names)
            own.update(node.arg for node in ast.walk(tree) if isinstance(node, ast.arg))
            for node in ast.walk(tree):
                if not isinstance(node, ast.Call):
                    continue
                if isinstance(node.func, ast.Name):
                    self.assertIn(node.func.id, own | BUILTINS, (path, node.lineno))
                else:
                    self.assertIn(node.func.attr, methods | METHODS, (path, node.lineno))


if __name__ == "__main__":
    unittest.main()
