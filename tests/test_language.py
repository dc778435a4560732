"""The package keeps to the small part of Python that it is written in (as far as a test can see it)."""

import ast
import builtins
import re
import unittest
from pathlib import Path

PACKAGE = Path(__file__).resolve().parent.parent / "seenareas"
FILES = sorted(PACKAGE.glob("*.py"))

STATEMENTS = (
    ast.Assign, ast.AugAssign, ast.If, ast.While, ast.For, ast.Return, ast.Break, ast.Continue, ast.Pass, ast.Raise,
    ast.Try, ast.ExceptHandler, ast.Expr, ast.FunctionDef, ast.ClassDef, ast.ImportFrom,
)
EXPRESSIONS = (
    ast.Constant, ast.Name, ast.Attribute, ast.Subscript, ast.Slice, ast.List, ast.Tuple, ast.Dict, ast.BinOp,
    ast.UnaryOp, ast.BoolOp, ast.Compare, ast.IfExp, ast.Call, ast.ListComp, ast.comprehension, ast.Lambda,
    ast.JoinedStr, ast.FormattedValue,
)
SMALL = (
    ast.Module, ast.arguments, ast.arg, ast.alias, ast.keyword, ast.expr_context, ast.boolop, ast.cmpop, ast.unaryop,
    ast.operator,
)
OWN_NAMES = set(
    "len range enumerate zip min max sum abs sorted reversed int str bool list tuple dict set isinstance ord repr any "
    "all divmod Exception ValueError KeyError IndexError ZeroDivisionError".split()
)
METHODS = set(
    "append clear copy count endswith extend find get index insert isalnum isalpha isdigit islower isspace isupper "
    "items join keys ljust lower lstrip partition pop remove replace reverse rfind rjust rpartition rsplit rstrip "
    "setdefault split splitlines startswith strip update upper values zfill bit_length".split()
)
WORDS = (
    "type typing typing_extensions enum Enum IntEnum StrEnum Flag IntFlag Generic Protocol ABC ABCMeta namedtuple "
    "NamedTuple TypedDict TYPE_CHECKING abstractmethod"
).split()
PARTS = ("dataclass", "overload", "contextmanager")
PYTHONS = set(dir(builtins))
TAKEN_VALUES = {name for kind in (str, int, list, dict, set, bytes) for name in dir(kind)}


def nodes(kinds):
    for path in FILES:
        for node in ast.walk(ast.parse(path.read_text())):
            if isinstance(node, kinds):
                yield path, node


def bound_names(tree):
    for node in ast.walk(tree):
        if isinstance(node, ast.Name) and isinstance(node.ctx, ast.Store):
            yield node.id
        elif isinstance(node, ast.arg):
            yield node.arg
        elif isinstance(node, (ast.FunctionDef, ast.ClassDef)):
            yield node.name


def top_names(tree):
    names = []
    for node in tree.body:
        if isinstance(node, ast.ImportFrom):
            names += [alias.asname or alias.name for alias in node.names]
        elif isinstance(node, ast.Assign):
            names += [target.id for target in node.targets]
        elif isinstance(node, (ast.FunctionDef, ast.ClassDef)):
            names.append(node.name)
    return names


class Files(unittest.TestCase):
    def test_only_plain_files(self):
        here = [path.name for path in PACKAGE.iterdir() if path.name != "__pycache__"]
        self.assertIn("__init__.py", here)
        for name in here:
            self.assertTrue(name == "__init__.py" or re.fullmatch(r"[a-z][a-z0-9_]*\.py", name), name)
            self.assertFalse(re.match(r"test|site|conftest|usercustomize", name), name)
            self.assertFalse(name[:-3] in PYTHONS or name[:-3] in WORDS, name)

    def test_size_and_signs(self):
        for path in FILES:
            text = path.read_text(encoding="utf-8")
            lines = text.split("\n")
            self.assertLessEqual(len(lines), 400, path)
            self.assertLessEqual(max(len(line) for line in lines), 120, path)
            self.assertRegex(text, r"\A[ -~\n]*\Z", path)

    def test_words_that_stand_nowhere(self):
        for path in FILES:
            text = path.read_text()
            self.assertEqual(set(re.findall(r"\w+", text)) & set(WORDS), set(), path)
            self.assertEqual([part for part in PARTS if part in text], [], path)

    def test_functions_are_short(self):
        for path, node in nodes(ast.FunctionDef):
            self.assertLessEqual(node.end_lineno - node.lineno + 1, 40, (path, node.name))


class Forms(unittest.TestCase):
    def test_only_known_statements_and_expressions(self):
        for path, node in nodes(ast.AST):
            self.assertIsInstance(node, STATEMENTS + EXPRESSIONS + SMALL, path)

    def test_values_are_whole_numbers_and_texts(self):
        for path, node in nodes(ast.Constant):
            self.assertIn(type(node.value), (int, str, bool, type(None)), path)
        for path, node in nodes(ast.BinOp):
            self.assertNotIsInstance(node.op, (ast.Div, ast.MatMult, ast.Pow), path)

    def test_statements_by_themselves_are_calls(self):
        for path in FILES:
            tree = ast.parse(path.read_text())
            self.assertIsNotNone(ast.get_docstring(tree), path)
            for node in ast.walk(tree):
                if isinstance(node, ast.Expr) and node is not tree.body[0]:
                    self.assertIsInstance(node.value, ast.Call, (path, node.lineno))

    def test_assignments_loops_and_is(self):
        for path, node in nodes(ast.Assign):
            self.assertEqual(len(node.targets), 1, (path, node.lineno))
        for path, node in nodes((ast.For, ast.While)):
            self.assertEqual(node.orelse, [], (path, node.lineno))
        for path, node in nodes(ast.Compare):
            for operator, right in zip(node.ops, node.comparators):
                if isinstance(operator, (ast.Is, ast.IsNot)):
                    self.assertIsInstance(getattr(right, "value", 0), (bool, type(None)), (path, node.lineno))
        for path, node in nodes(ast.ListComp):
            self.assertEqual(len(node.generators), 1, (path, node.lineno))
            self.assertLessEqual(len(node.generators[0].ifs), 1, (path, node.lineno))

    def test_plain_functions_and_classes(self):
        for path, node in nodes((ast.FunctionDef, ast.ClassDef)):
            self.assertEqual(node.decorator_list, [], (path, node.name))
        for path, node in nodes(ast.arguments):
            self.assertEqual((node.vararg, node.kwarg, node.kwonlyargs, node.posonlyargs), (None, None, [], []), path)
        for path, node in nodes(ast.arg):
            self.assertIsNone(node.annotation, path)
        for path, node in nodes(ast.ClassDef):
            self.assertTrue(all(isinstance(part, (ast.FunctionDef, ast.Pass)) for part in node.body), (path, node.name))

    def test_only_own_errors_are_raised_and_taken(self):
        own = {node.name for path, node in nodes(ast.ClassDef) if node.bases}
        for path, node in nodes(ast.Raise):
            self.assertIn(node.exc.func.id, own, (path, node.lineno))
        for path, node in nodes(ast.ExceptHandler):
            self.assertIn(node.type.id, own, (path, node.lineno))
        for path, node in nodes(ast.Try):
            self.assertEqual(node.finalbody, [], (path, node.lineno))
        for path, node in nodes(ast.ClassDef):
            self.assertIn([base.id for base in node.bases], ([], ["Exception"]), (path, node.name))


class Names(unittest.TestCase):
    def test_imports_are_the_packages_own_from_where_they_are_defined(self):
        for path, node in nodes(ast.ImportFrom):
            self.assertTrue(node.module.startswith("seenareas.") and node.level == 0, (path, node.module))
            source = PACKAGE / (node.module.split(".")[1] + ".py")
            tree = ast.parse(source.read_text())
            defined = [part for part in tree.body if not isinstance(part, ast.ImportFrom)]
            for alias in node.names:
                self.assertIn(alias.name, top_names(ast.Module(defined, [])), path)

    def test_no_files_draw_from_one_another(self):
        drawn = {path.stem: set() for path in FILES}
        for path, node in nodes(ast.ImportFrom):
            drawn[path.stem].add(node.module.split(".")[1])
        while drawn:
            free = [name for name in drawn if not drawn[name] & set(drawn)]
            self.assertNotEqual(free, [], drawn)
            drawn = {name: drawn[name] for name in drawn if name not in free}

    def test_each_name_once_at_a_files_top(self):
        for path in FILES:
            names = top_names(ast.parse(path.read_text()))
            self.assertEqual(len(names), len(set(names)), path)

    def test_plain_names_that_are_not_pythons(self):
        for path in FILES:
            tree = ast.parse(path.read_text())
            for name in bound_names(tree):
                self.assertTrue(name == "__init__" or re.fullmatch(r"[A-Za-z][A-Za-z0-9_]*", name), (path, name))
                self.assertFalse(name in PYTHONS, (path, name))

    def test_no_local_is_called_like_an_import_or_a_class(self):
        for path in FILES:
            tree = ast.parse(path.read_text())
            outer = [part for part in tree.body if isinstance(part, (ast.ImportFrom, ast.ClassDef))]
            taken = set(top_names(ast.Module(outer, [])))
            for node in tree.body:
                if isinstance(node, ast.FunctionDef):
                    self.assertEqual(set(bound_names(node)) & taken, set(), (path, node.name))

    def test_only_allowed_names_of_pythons_own(self):
        for path in FILES:
            tree = ast.parse(path.read_text())
            known = set(bound_names(tree)) | set(top_names(tree)) | OWN_NAMES
            for node in ast.walk(tree):
                if isinstance(node, ast.Name):
                    self.assertIn(node.id, known, (path, node.lineno))

    def test_only_allowed_methods_and_free_value_names(self):
        for path, node in nodes(ast.Call):
            if isinstance(node.func, ast.Attribute):
                self.assertIn(node.func.attr, METHODS, (path, node.lineno))
        for path, node in nodes(ast.Attribute):
            if isinstance(node.ctx, ast.Store):
                self.assertNotIn(node.attr, TAKEN_VALUES, (path, node.lineno))


if __name__ == "__main__":
    unittest.main()
