"""The package's own files keep to the small part of Python that the project allows, as far as a reader can see it."""

import ast
import builtins
import re
import unittest
from pathlib import Path

PACKAGE = Path(__file__).resolve().parent.parent / "prioritybook"
FILES = sorted(path for path in PACKAGE.rglob("*") if path.is_file() and "__pycache__" not in path.parts)

NODES = {
    "Module", "Expr", "Constant", "ImportFrom", "alias", "FunctionDef", "arguments", "arg", "ClassDef", "Return",
    "Assign", "AugAssign", "For", "While", "If", "Raise", "Try", "ExceptHandler", "Pass", "Break", "Continue",
    "BoolOp", "And", "Or", "BinOp", "Add", "Sub", "Mult", "FloorDiv", "Mod", "LShift", "RShift", "BitOr",
    "BitAnd", "BitXor", "UnaryOp", "Not", "USub", "Invert", "Lambda", "IfExp", "Dict", "ListComp", "comprehension",
    "Compare", "Eq", "NotEq", "Lt", "LtE", "Gt", "GtE", "Is", "IsNot", "In", "NotIn", "Call", "keyword",
    "Attribute", "Subscript", "Slice", "Name", "List", "Tuple", "Load", "Store",
}
BUILT_IN = set(
    "len range enumerate zip min max sum abs sorted reversed int str bool list tuple dict set frozenset isinstance ord "
    "repr any all divmod Exception ValueError KeyError IndexError LookupError ZeroDivisionError".split()
)
METHODS = set(
    "append clear copy count endswith extend find get index insert isalnum isalpha isdigit islower isspace isupper "
    "items join keys ljust lower lstrip partition pop remove replace reverse rfind rjust rpartition rsplit rstrip "
    "setdefault split splitlines startswith strip update upper values zfill bit_length".split()
)
WORDS = re.compile(
    r"\b(type|typing|typing_extensions|enum|Enum|IntEnum|StrEnum|Flag|IntFlag|Generic|Protocol|ABC|ABCMeta|namedtuple|"
    r"NamedTuple|TypedDict|TYPE_CHECKING|abstractmethod)\b|dataclass|overload|contextmanager"
)
NAMES_NOT_USED = {"register", "mro", "elements", "open", "input", "version_info", "with_traceback", "add_note"}
TOP = (ast.ImportFrom, ast.FunctionDef, ast.ClassDef, ast.Assign)


def walk(path, kind):
    return [node for node in ast.walk(ast.parse(path.read_text())) if isinstance(node, kind)]


def bound_names(path):
    names = [node.id for node in walk(path, ast.Name) if isinstance(node.ctx, ast.Store)]
    names += [node.arg for node in walk(path, ast.arg)]
    return names + [node.name for node in walk(path, (ast.FunctionDef, ast.ClassDef))]


class LanguageTest(unittest.TestCase):
    def test_files_and_signs(self):
        self.assertIn(PACKAGE / "papers.py", FILES)
        self.assertIn(PACKAGE / "__init__.py", FILES)
        for path in FILES:
            with self.subTest(file=path.name):
                self.assertRegex(path.name, r"^([a-z][a-z0-9_]*|__init__)\.py$")
                self.assertRegex(path.read_bytes().decode("ascii"), r"\A[ -~\n]*\Z")
                self.assertIsNone(WORDS.search(path.read_text()))

    def test_sizes(self):
        for path in FILES:
            with self.subTest(file=path.name):
                lines = path.read_text().splitlines()
                self.assertLessEqual(len(lines), 400)
                self.assertLessEqual(max(len(line) for line in lines), 120)
                for node in walk(path, ast.FunctionDef):
                    self.assertLessEqual(node.end_lineno - node.lineno + 1, 40, node.name)

    def test_statements_and_expressions(self):
        for path in FILES:
            with self.subTest(file=path.name):
                for node in walk(path, ast.AST):
                    self.assertIn(type(node).__name__, NODES, getattr(node, "lineno", None))
                for node in walk(path, ast.Constant):
                    self.assertIn(type(node.value), (int, str, bool, type(None)), node.lineno)
                for node in walk(path, (ast.For, ast.While)):
                    self.assertEqual(node.orelse, [], node.lineno)
                for node in walk(path, ast.Try):
                    self.assertEqual(node.finalbody, [], node.lineno)
                for node in walk(path, ast.Assign):
                    self.assertEqual(len(node.targets), 1, node.lineno)
                for node in walk(path, ast.ListComp):
                    self.assertEqual(len(node.generators), 1, node.lineno)
                    self.assertLessEqual(len(node.generators[0].ifs), 1, node.lineno)

    def test_defs(self):
        for path in FILES:
            with self.subTest(file=path.name):
                for node in walk(path, (ast.FunctionDef, ast.ClassDef)):
                    self.assertEqual(node.decorator_list, [], node.name)
                for node in walk(path, ast.arguments):
                    self.assertEqual((node.vararg, node.kwarg, node.kwonlyargs, node.posonlyargs), (None, None, [], []))
                for node in walk(path, ast.ClassDef):
                    self.assertLessEqual({type(each) for each in node.body}, {ast.FunctionDef})

    def test_the_top_of_a_file(self):
        for path in FILES:
            with self.subTest(file=path.name):
                body = ast.parse(path.read_text()).body
                self.assertIsInstance(ast.literal_eval(body[0].value), str)
                for node in body[1:]:
                    self.assertIsInstance(node, TOP, node.lineno)
                names = [node.targets[0].id for node in body if isinstance(node, ast.Assign)]
                names += [node.name for node in body if isinstance(node, (ast.FunctionDef, ast.ClassDef))]
                names += [alias.name for node in body if isinstance(node, ast.ImportFrom) for alias in node.names]
                self.assertEqual(len(names), len(set(names)))

    def test_imports(self):
        drawn = {}
        for path in FILES:
            with self.subTest(file=path.name):
                nodes = walk(path, ast.ImportFrom)
                drawn[path.stem] = {node.module.removeprefix("prioritybook.") for node in nodes}
                for node in nodes:
                    self.assertEqual((node.level, node.col_offset), (0, 0))
                    self.assertRegex(node.module, r"^prioritybook\.[a-z]+$")
                    source = ast.parse((PACKAGE / (node.module.split(".")[1] + ".py")).read_text()).body
                    defined = [each.name for each in source if isinstance(each, (ast.FunctionDef, ast.ClassDef))]
                    defined += [each.targets[0].id for each in source if isinstance(each, ast.Assign)]
                    for alias in node.names:
                        self.assertIsNone(alias.asname)
                        self.assertIn(alias.name, defined)
        while drawn:
            ready = [stem for stem in drawn if not drawn[stem] & set(drawn)]
            self.assertNotEqual(ready, [], "files draw from one another")
            for stem in ready:
                del drawn[stem]

    def test_names(self):
        for path in FILES:
            with self.subTest(file=path.name):
                bound = bound_names(path)
                drawn = [alias.name for node in walk(path, ast.ImportFrom) for alias in node.names]
                classes = [node.name for node in walk(path, ast.ClassDef)]
                local = [node.id for node in walk(path, ast.Name) if isinstance(node.ctx, ast.Store)]
                local += [node.arg for node in walk(path, ast.arg)]
                for each in bound:
                    self.assertRegex(each, r"^([A-Za-z][A-Za-z0-9_]*|__init__)$")
                    self.assertNotIn(each, dir(builtins))
                    self.assertNotIn(each, NAMES_NOT_USED)
                for each in local:
                    self.assertNotIn(each, drawn + classes)
                for node in walk(path, ast.Name):
                    self.assertIn(node.id, BUILT_IN | set(bound) | set(drawn), node.lineno)

    def test_methods_and_values(self):
        taken = {each for kind in (str, int, list, dict, set, bytes, tuple) for each in dir(kind)}
        own_methods = set()
        own_values = set()
        for path in FILES:
            for node in walk(path, ast.ClassDef):
                own_methods |= {each.name for each in node.body}
            stored = [node.attr for node in walk(path, ast.Attribute) if isinstance(node.ctx, ast.Store)]
            own_values |= set(stored)
        self.assertEqual(own_methods & own_values, set())
        self.assertEqual((own_values | own_methods - {"__init__"}) & taken, set())
        for path in FILES:
            with self.subTest(file=path.name):
                for node in walk(path, ast.Attribute):
                    self.assertIn(node.attr, own_methods | own_values | METHODS, node.lineno)
                    self.assertNotIn(node.attr, NAMES_NOT_USED)

    def test_is_stands_beside_none(self):
        for path in FILES:
            with self.subTest(file=path.name):
                for node in walk(path, ast.Compare):
                    for operator, right in zip(node.ops, node.comparators):
                        if isinstance(operator, (ast.Is, ast.IsNot)):
                            self.assertIn(ast.unparse(right), ("None", "True", "False"))


if __name__ == "__main__":
    unittest.main()
