"""The form of the package's files, as far as it can be read off: sizes, signs, imports, words, names."""

import ast
import re
import unittest
from pathlib import Path

PACKAGE = Path(__file__).resolve().parent.parent / "nightbook"
FILES = sorted(PACKAGE.glob("*.py"))
WORDS = ["type", "typing", "typing_extensions", "enum", "Enum", "IntEnum", "StrEnum", "Flag", "IntFlag", "Generic",
         "Protocol", "ABC", "ABCMeta", "namedtuple", "NamedTuple", "TypedDict", "TYPE_CHECKING", "abstractmethod"]
WITHIN = ["dataclass", "overload", "contextmanager"]
OUT = (ast.With, ast.Match, ast.Delete, ast.Global, ast.Nonlocal, ast.Assert, ast.Yield, ast.YieldFrom, ast.Await,
       ast.AsyncFunctionDef, ast.AsyncFor, ast.AsyncWith, ast.SetComp, ast.DictComp, ast.GeneratorExp, ast.NamedExpr,
       ast.Starred, ast.Div, ast.Import, ast.AnnAssign)


def nodes(path):
    return list(ast.walk(ast.parse(path.read_text(encoding="ascii"))))


class FormTest(unittest.TestCase):
    def test_only_plain_files(self):
        for path in PACKAGE.iterdir():
            if path.name != "__pycache__":
                self.assertRegex(path.name, r"^(__init__|__main__|[a-z][a-z0-9_]*)\.py$")
        self.assertIn(PACKAGE / "__init__.py", FILES)

    def test_sizes_and_signs(self):
        for path in FILES:
            text = path.read_text(encoding="ascii")
            self.assertRegex(text, r"\A[ -~\n]*\Z", path)
            self.assertLessEqual(len(text.splitlines()), 400, path)
            self.assertLessEqual(max([len(line) for line in text.splitlines()]), 120, path)

    def test_functions_are_small_and_plain(self):
        for path in FILES:
            for node in nodes(path):
                if isinstance(node, (ast.FunctionDef, ast.ClassDef)):
                    self.assertEqual(node.decorator_list, [], path)
                if isinstance(node, ast.FunctionDef):
                    self.assertLessEqual(node.end_lineno - node.lineno + 1, 40, (path, node.name))
                    self.assertIsNone(node.args.vararg or node.args.kwarg, (path, node.name))
                    self.assertEqual(node.args.kwonlyargs, [], (path, node.name))

    def test_words(self):
        for path in FILES:
            text = path.read_text(encoding="ascii")
            for word in WORDS:
                self.assertIsNone(re.search(rf"\b{word}\b", text), (path, word))
            for word in WITHIN:
                self.assertNotIn(word, text, path)

    def test_imports_are_the_package_s_own(self):
        for path in FILES:
            for node in nodes(path):
                if isinstance(node, ast.ImportFrom):
                    self.assertEqual((node.module or "").split(".")[0], "nightbook", path)
                    self.assertEqual(node.level, 0, path)
                    self.assertNotIn("*", [name.name for name in node.names], path)

    def test_nothing_that_is_out(self):
        for path in FILES:
            for node in nodes(path):
                self.assertNotIsInstance(node, OUT, path)
                if isinstance(node, ast.Constant):
                    self.assertNotIsInstance(node.value, (float, complex, bytes), path)
                if isinstance(node, (ast.For, ast.While, ast.Try)):
                    self.assertFalse(isinstance(node, ast.Try) and node.finalbody, path)
                    self.assertFalse(not isinstance(node, ast.Try) and node.orelse, path)
                if isinstance(node, ast.Assign):
                    self.assertEqual(len(node.targets), 1, path)
                if isinstance(node, ast.Name):
                    self.assertFalse(node.id.startswith("_"), (path, node.id))


if __name__ == "__main__":
    unittest.main()
