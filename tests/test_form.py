"""The form of the package's files, as far as it can be read off, rule by rule of the language that it keeps to."""

import ast
import builtins
import io
import re
import tokenize
import unittest
from pathlib import Path

PACKAGE = Path(__file__).resolve().parent.parent / "nightbook"
FILES = sorted(PACKAGE.glob("*.py"))
WORDS = ["type", "typing", "typing_extensions", "enum", "Enum", "IntEnum", "StrEnum", "Flag", "IntFlag", "Generic",
         "Protocol", "ABC", "ABCMeta", "namedtuple", "NamedTuple", "TypedDict", "TYPE_CHECKING", "abstractmethod"]
WITHIN = ["dataclass", "overload", "contextmanager"]
STATEMENTS = (ast.Assign, ast.AugAssign, ast.If, ast.While, ast.For, ast.Return, ast.Break, ast.Continue, ast.Pass,
              ast.Raise, ast.Try, ast.Expr, ast.FunctionDef, ast.ClassDef, ast.ImportFrom)
EXPRESSIONS = (ast.Constant, ast.List, ast.Tuple, ast.Dict, ast.Set, ast.BinOp, ast.UnaryOp, ast.BoolOp, ast.Compare,
               ast.IfExp, ast.Call, ast.Attribute, ast.Subscript, ast.Slice, ast.ListComp, ast.JoinedStr,
               ast.FormattedValue, ast.Name, ast.Lambda)
ERRORS = {"Exception", "ValueError", "TypeError", "KeyError", "IndexError", "LookupError", "ZeroDivisionError",
          "ArithmeticError", "OverflowError", "RuntimeError", "NotImplementedError", "AttributeError", "StopIteration"}
BUILT_IN = {"len", "range", "enumerate", "zip", "min", "max", "sum", "abs", "sorted", "reversed", "int", "str", "bool",
            "list", "tuple", "dict", "set", "frozenset", "isinstance", "ord", "repr", "any", "all", "divmod"} | ERRORS
METHODS = set("""append clear copy count endswith extend find get index insert isalnum isalpha isdigit islower isspace
isupper items join keys ljust lower lstrip partition pop remove replace reverse rfind rjust rpartition rsplit rstrip
setdefault split splitlines startswith strip update upper values zfill bit_length""".split())
CHANGES = {"append", "clear", "extend", "insert", "pop", "remove", "reverse", "setdefault", "update"}
NO_VALUES = CHANGES | {"items", "keys", "values", "sort", "args", "encode", "format"}
NOWHERE = {"register", "mro", "elements", "open", "input", "version_info", "with_traceback", "add_note", "format",
           "format_map"}
KEYWORDS = {"sorted": {"key", "reverse"}, "min": {"key", "default"}, "max": {"key", "default"}, "sum": {"start"},
            "enumerate": {"start"}, "zip": {"strict"}}
DUNDERS = {"__init__", "__eq__", "__repr__", "__str__", "__len__"}
WALKED = {"zip", "enumerate", "reversed", "range"}
WALKERS = {"list", "tuple", "dict", "sorted", "sum", "any", "all", "enumerate", "zip", "min", "max"}
PYTHONS_OWN = {name for kind in (str, int, list, dict, set, bytes, tuple) for name in dir(kind)}


def tree_of(path):
    tree = ast.parse(path.read_text(encoding="ascii"))
    for node in ast.walk(tree):
        for child in ast.iter_child_nodes(node):
            child.above = node
    return tree


TREES = {path: tree_of(path) for path in FILES}
ALL_NODES = [(path, node) for path in FILES for node in ast.walk(TREES[path])]


def of_kind(*kinds):
    return [(path, node) for path, node in ALL_NODES if isinstance(node, kinds)]


def imported(tree):
    return [alias.name for row in tree.body if isinstance(row, ast.ImportFrom) for alias in row.names]


def bound_at_top(tree):
    names = [row.name for row in tree.body if isinstance(row, (ast.FunctionDef, ast.ClassDef))]
    return names + [row.targets[0].id for row in tree.body if isinstance(row, ast.Assign)]


def classes_of(tree):
    return [row.name for row in tree.body if isinstance(row, ast.ClassDef)]


def locals_of(tree):
    names = [node.arg for node in ast.walk(tree) if isinstance(node, ast.arg)]
    inner = [node for node in ast.walk(tree) if isinstance(node, ast.Name) and isinstance(node.ctx, ast.Store)]
    names += [node.id for node in inner if not isinstance(getattr(node.above, "above", None), ast.Module)]
    return names + [node.name for node in ast.walk(tree) if isinstance(node, ast.ExceptHandler) and node.name]


def methods_and_values():
    methods, values = set(), set()
    for path, node in ALL_NODES:
        if isinstance(node, ast.ClassDef):
            methods |= {row.name for row in node.body if isinstance(row, ast.FunctionDef)}
        if isinstance(node, ast.Attribute) and isinstance(node.ctx, ast.Store):
            values.add(node.attr)
    return methods, values


def is_plain(value):
    if isinstance(value, (ast.List, ast.Tuple)):
        return all(is_plain(one) for one in value.elts)
    if isinstance(value, ast.Dict):
        return all(is_plain(one) for one in value.keys + value.values)
    return isinstance(value, (ast.Constant, ast.Name))


def root_of(node):
    while isinstance(node, (ast.Attribute, ast.Subscript)):
        node = node.value
    return node.id if isinstance(node, ast.Name) else None


class FilesTest(unittest.TestCase):
    def test_only_plain_files(self):
        for path in PACKAGE.iterdir():
            if path.name != "__pycache__":
                self.assertRegex(path.name, r"^(__init__|__main__|[a-z][a-z0-9_]*)\.py$")
                self.assertFalse(path.stem[0] != "_" and hasattr(builtins, path.stem), path)
                self.assertNotRegex(path.stem, r"^(test.*|site|conftest|sitecustomize|usercustomize)$")
        self.assertIn(PACKAGE / "__init__.py", FILES)

    def test_sizes_and_signs(self):
        for path in FILES:
            text = path.read_text(encoding="ascii")
            self.assertRegex(text, r"\A[ -~\n]*\Z", path)
            self.assertLessEqual(len(text.splitlines()), 400, path)
            self.assertLessEqual(max([len(line) for line in text.splitlines()]), 120, path)

    def test_words(self):
        for path in FILES:
            text = path.read_text(encoding="ascii")
            for word in WORDS:
                self.assertIsNone(re.search(rf"\b{word}\b", text), (path, word))
            for word in WITHIN:
                self.assertNotIn(word, text, path)

    def test_texts_have_no_other_escapes(self):
        for path in FILES:
            for token in tokenize.generate_tokens(io.StringIO(path.read_text(encoding="ascii")).readline):
                if token.type == tokenize.STRING:
                    self.assertNotIn("%", token.string, path)
                    self.assertNotRegex(token.string, r"\\[^nt\\'\"]", path)


class TopTest(unittest.TestCase):
    def test_what_stands_there(self):
        for path, tree in TREES.items():
            for place, row in enumerate(tree.body):
                if isinstance(row, ast.Expr):
                    self.assertEqual((place, type(row.value)), (0, ast.Constant), path)
                elif isinstance(row, ast.Assign):
                    self.assertTrue(is_plain(row.value), (path, row.lineno))
                else:
                    self.assertIsInstance(row, (ast.ImportFrom, ast.FunctionDef, ast.ClassDef), path)

    def test_each_name_once(self):
        for path, tree in TREES.items():
            names = bound_at_top(tree) + imported(tree)
            self.assertEqual(sorted(set(names)), sorted(names), path)

    def test_lists_and_dicts_hold_none_and_stay(self):
        for path, tree in TREES.items():
            kept = [row for row in tree.body if isinstance(row, ast.Assign)]
            for row in kept:
                if isinstance(row.value, (ast.List, ast.Dict)):
                    within = list(ast.walk(row.value))[1:]
                    self.assertFalse([node for node in within if isinstance(node, (ast.List, ast.Dict))], path)
            names = {row.targets[0].id for row in kept}
            for node in ast.walk(tree):
                if isinstance(node, (ast.Subscript, ast.Attribute)) and isinstance(node.ctx, ast.Store):
                    self.assertNotIn(root_of(node), names, path)
                if isinstance(node, ast.Call) and isinstance(node.func, ast.Attribute) and node.func.attr in CHANGES:
                    self.assertNotIn(root_of(node.func), names, path)

    def test_imports_are_from_the_file_that_defines_the_name(self):
        tops = {f"nightbook.{path.stem}": bound_at_top(tree) for path, tree in TREES.items()}
        for path, node in of_kind(ast.Import, ast.ImportFrom):
            self.assertIsInstance(node, ast.ImportFrom, path)
            self.assertEqual(node.level, 0, path)
            self.assertIs(node.above, TREES[path])
            for alias in node.names:
                self.assertIn(alias.name, tops[node.module], path)
                self.assertIsNone(alias.asname, path)

    def test_no_two_files_draw_from_one_another(self):
        draws = {f"nightbook.{path.stem}": {row.module for row in tree.body if isinstance(row, ast.ImportFrom)}
                 for path, tree in TREES.items()}
        while draws:
            last = [name for name in draws if not draws[name] & set(draws)]
            self.assertTrue(last, draws)
            draws = {name: draws[name] for name in draws if name not in last}

    def test_each_import_is_used(self):
        for path, tree in TREES.items():
            used = {node.id for node in ast.walk(tree) if isinstance(node, ast.Name)}
            self.assertEqual([name for name in imported(tree) if name not in used], [], path)


class NamesTest(unittest.TestCase):
    def test_plain_names(self):
        for path, tree in TREES.items():
            names = bound_at_top(tree) + locals_of(tree)
            names += [node.attr for node in ast.walk(tree) if isinstance(node, ast.Attribute)]
            for name in names:
                if name not in DUNDERS:
                    self.assertRegex(name, r"^[A-Za-z][A-Za-z0-9_]*$", path)
                self.assertNotIn(name, NOWHERE, path)

    def test_no_local_is_called_like_something_else(self):
        for path, tree in TREES.items():
            for name in locals_of(tree):
                self.assertNotIn(name, imported(tree) + classes_of(tree), path)
                self.assertFalse(hasattr(builtins, name), (path, name))

    def test_pythons_own_names_are_those_listed(self):
        for path, tree in TREES.items():
            own = set(bound_at_top(tree) + imported(tree) + locals_of(tree))
            for node in ast.walk(tree):
                if isinstance(node, ast.Name) and node.id not in own:
                    self.assertIn(node.id, BUILT_IN, (path, node.lineno))

    def test_no_name_is_a_method_here_and_a_value_there(self):
        methods, values = methods_and_values()
        self.assertEqual(methods & values, set())
        self.assertEqual(values & NO_VALUES, set())
        self.assertEqual((methods - DUNDERS) & (PYTHONS_OWN - METHODS - {"add", "discard"}), set())

    def test_methods_are_those_listed_or_own(self):
        methods, values = methods_and_values()
        for path, node in of_kind(ast.Attribute):
            if isinstance(node.above, ast.Call) and node.above.func is node:
                self.assertIn(node.attr, METHODS | methods, (path, node.lineno))
            else:
                self.assertIn(node.attr, values, (path, node.lineno))


class StatementsTest(unittest.TestCase):
    def test_only_those_listed(self):
        for path, node in of_kind(ast.stmt):
            self.assertIsInstance(node, STATEMENTS, (path, node.lineno))
        for path, node in of_kind(ast.Expr):
            self.assertIsInstance(node.value, (ast.Call, ast.Constant), (path, node.lineno))
        for path, node in of_kind(ast.Assign):
            self.assertEqual(len(node.targets), 1, path)
            self.assertNotIsInstance(node.targets[0], (ast.Tuple, ast.List), (path, node.lineno))
        for path, node in of_kind(ast.For, ast.While):
            self.assertEqual(node.orelse, [], path)
        for path, node in of_kind(ast.Try):
            self.assertEqual(node.finalbody, [], path)

    def test_functions_are_small_and_plain(self):
        for path, node in of_kind(ast.FunctionDef):
            self.assertEqual((node.decorator_list, node.returns), ([], None), path)
            self.assertLessEqual(node.end_lineno - node.lineno + 1, 40, (path, node.name))
            self.assertIsNone(node.args.vararg or node.args.kwarg, (path, node.name))
            self.assertEqual(node.args.kwonlyargs + node.args.posonlyargs, [], (path, node.name))
            self.assertTrue(all(is_plain(value) for value in node.args.defaults), (path, node.name))
            self.assertEqual([one.arg for one in node.args.args if one.annotation], [], (path, node.name))

    def test_classes_are_plain(self):
        for path, node in of_kind(ast.ClassDef):
            self.assertEqual((node.decorator_list, node.keywords), ([], []), path)
            self.assertLessEqual(len(node.bases), 1, path)
            self.assertIs(node.above, TREES[path])
            for row in node.body:
                if not isinstance(row, (ast.FunctionDef, ast.Pass)):
                    self.assertTrue(isinstance(row, ast.Expr) and isinstance(row.value, ast.Constant), path)
            names = [row.name for row in node.body if isinstance(row, ast.FunctionDef)]
            self.assertEqual(sorted(set(names)), sorted(names), path)
            self.assertEqual([name for name in names if name.startswith("_") and name not in DUNDERS], [], path)

    def test_errors_are_taken_and_raised_by_name(self):
        own = {name for tree in TREES.values() for name in classes_of(tree)}
        for path, node in of_kind(ast.ExceptHandler):
            self.assertIsInstance(node.type, ast.Name, path)
            self.assertIn(node.type.id, own | {"KeyError", "ZeroDivisionError"}, (path, node.lineno))
        for path, node in of_kind(ast.Raise):
            self.assertIsInstance(node.exc, ast.Call, (path, node.lineno))

    def test_what_a_loop_walks_is_not_changed_in_it(self):
        for path, node in of_kind(ast.For):
            walked = {one.id for one in ast.walk(node.iter) if isinstance(one, ast.Name)} - BUILT_IN
            for inner in [one for row in node.body for one in ast.walk(row)]:
                if isinstance(inner, ast.Subscript) and isinstance(inner.ctx, ast.Store):
                    plain = isinstance(node.iter, ast.Call) and isinstance(node.iter.func, ast.Name)
                    if not plain or node.iter.func.id != "range":
                        self.assertNotIn(root_of(inner), walked - {"self"}, (path, inner.lineno))
                if isinstance(inner, ast.Call) and isinstance(inner.func, ast.Attribute) and inner.func.attr in CHANGES:
                    if isinstance(inner.func.value, ast.Name):
                        self.assertNotIn(inner.func.value.id, walked, (path, inner.lineno))


class ExpressionsTest(unittest.TestCase):
    def test_only_those_listed(self):
        for path, node in of_kind(ast.expr):
            self.assertIsInstance(node, EXPRESSIONS, (path, node.lineno))
        for path, node in of_kind(ast.Constant):
            self.assertIsInstance(node.value, (int, str, type(None)), (path, node.lineno))
        for path, node in of_kind(ast.Div, ast.MatMult):
            self.fail((path, node))
        for path, node in of_kind(ast.BinOp):
            if isinstance(node.op, ast.Pow):
                self.assertIsInstance(node.right, ast.Constant, (path, node.lineno))
                self.assertIn(node.right.value, range(65), (path, node.lineno))

    def test_comprehensions_and_formed_texts(self):
        for path, node in of_kind(ast.ListComp):
            self.assertEqual(len(node.generators), 1, (path, node.lineno))
            self.assertLessEqual(len(node.generators[0].ifs), 1, (path, node.lineno))
        for path, node in of_kind(ast.FormattedValue):
            self.assertIsInstance(node.value, ast.Name, (path, node.lineno))
            self.assertIsNone(node.format_spec, (path, node.lineno))

    def test_is_stands_beside_none_and_truths(self):
        for path, node in of_kind(ast.Compare):
            for operator, right in zip(node.ops, node.comparators):
                if isinstance(operator, (ast.Is, ast.IsNot)):
                    self.assertTrue(isinstance(right, ast.Constant) and right.value in (None, True, False), path)

    def test_keywords(self):
        own = {name for tree in TREES.values() for name in bound_at_top(tree)}
        for path, node in of_kind(ast.Call):
            name = node.func.id if isinstance(node.func, ast.Name) else None
            if node.keywords and name not in own:
                self.assertLessEqual({one.arg for one in node.keywords}, KEYWORDS.get(name, set()), (path, node.lineno))

    def test_walked_at_once(self):
        for path, node in of_kind(ast.Call):
            names = isinstance(node.func, ast.Name) and node.func.id in WALKED
            methods = isinstance(node.func, ast.Attribute) and node.func.attr in ("items", "keys", "values")
            if names or methods:
                around = node.above
                spot = isinstance(around, (ast.For, ast.comprehension)) and around.iter is node
                called = isinstance(around, ast.Call) and isinstance(around.func, ast.Name)
                self.assertTrue(spot or called and around.func.id in WALKERS, (path, node.lineno))

    def test_sets_are_not_kept(self):
        for path, node in of_kind(ast.Call):
            if isinstance(node.func, ast.Name) and node.func.id in ("set", "frozenset"):
                around = node.above
                while isinstance(around, ast.BinOp):
                    around = around.above
                called = isinstance(around, ast.Call) and isinstance(around.func, ast.Name)
                spot = called and around.func.id in ("sorted", "len") and not around.keywords
                self.assertTrue(spot or isinstance(around, ast.Compare), (path, node.lineno))
        self.assertEqual(of_kind(ast.Set), [])


if __name__ == "__main__":
    unittest.main()
