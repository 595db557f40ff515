"""The package keeps to the small part of Python that it is written in, as far as a walk over its trees can tell."""

import ast
import builtins
import pathlib
import re
import unittest

PACKAGE = pathlib.Path(__file__).resolve().parent.parent / "trickboard"

STATEMENTS = (ast.Module, ast.FunctionDef, ast.ClassDef, ast.ImportFrom, ast.Assign, ast.AugAssign, ast.If, ast.While,
              ast.For, ast.Return, ast.Break, ast.Continue, ast.Pass, ast.Raise, ast.Try, ast.Expr)
EXPRESSIONS = (ast.BinOp, ast.UnaryOp, ast.BoolOp, ast.Compare, ast.IfExp, ast.Call, ast.Attribute, ast.Subscript,
               ast.Slice, ast.Name, ast.Constant, ast.List, ast.Tuple, ast.Dict, ast.ListComp, ast.Lambda)
PARTS = (ast.comprehension, ast.arguments, ast.arg, ast.keyword, ast.alias, ast.ExceptHandler, ast.expr_context,
         ast.boolop, ast.operator, ast.unaryop, ast.cmpop)
BUILTINS = set("""len range enumerate zip min max sum abs sorted reversed int str bool list tuple dict set frozenset
    isinstance ord repr any all divmod Exception ValueError TypeError KeyError IndexError LookupError ZeroDivisionError
    ArithmeticError OverflowError RuntimeError NotImplementedError AttributeError StopIteration""".split())
METHODS = set("""append clear copy count endswith extend find get index insert isalnum isalpha isdigit islower isspace
    isupper items join keys ljust lower lstrip partition pop remove replace reverse rfind rjust rpartition rsplit rstrip
    setdefault split splitlines startswith strip update upper values zfill bit_length""".split())
OUTLAWED = re.compile(r"\b(type|typing|typing_extensions|enum|Enum|IntEnum|StrEnum|Flag|IntFlag|Generic|Protocol|ABC"
                      r"|ABCMeta|namedtuple|NamedTuple|TypedDict|TYPE_CHECKING|abstractmethod|register|mro|elements"
                      r"|open|input)\b|dataclass|overload|contextmanager")


def sources():
    return {path: path.read_text(encoding="utf-8") for path in sorted(PACKAGE.glob("*.py"))}


def nodes(kinds):
    for path, text in sources().items():
        for node in ast.walk(ast.parse(text)):
            if isinstance(node, kinds):
                yield f"{path.name}:{getattr(node, 'lineno', 0)}", node


def bound_names(node):
    """Names that are given a meaning somewhere in this tree."""
    found = set()
    for part in ast.walk(node):
        if isinstance(part, (ast.FunctionDef, ast.ClassDef)):
            found.add(part.name)
        elif isinstance(part, ast.arg):
            found.add(part.arg)
        elif isinstance(part, ast.alias):
            found.add(part.asname or part.name)
        elif isinstance(part, ast.Name) and isinstance(part.ctx, ast.Store):
            found.add(part.id)
    return found


class LanguageTest(unittest.TestCase):

    def test_files(self):
        found = [path for path in PACKAGE.iterdir() if path.name != "__pycache__"]
        self.assertIn(PACKAGE / "__init__.py", found)
        for path in found:
            self.assertRegex(path.name, r"\A(__init__|[a-z][a-z0-9_]*)\.py\Z")

    def test_signs_sizes_and_words(self):
        for path, text in sources().items():
            self.assertRegex(text, r"\A[ -~\n]*\Z", path.name)
            rows = text.split("\n")
            self.assertLessEqual(len(rows), 400, path.name)
            self.assertLessEqual(max(len(row) for row in rows), 120, path.name)
            self.assertIsNone(OUTLAWED.search(text), path.name)

    def test_only_plain_statements_and_expressions(self):
        for place, node in nodes(ast.AST):
            self.assertIsInstance(node, STATEMENTS + EXPRESSIONS + PARTS, place)
            self.assertNotIsInstance(node, (ast.Div, ast.MatMult), place)
            if isinstance(node, ast.Constant):
                self.assertIn(type(node.value), (int, str, bool, type(None)), place)

    def test_functions(self):
        for place, node in nodes(ast.FunctionDef):
            self.assertLessEqual(node.end_lineno - node.lineno + 1, 40, place)
            self.assertEqual(node.decorator_list, [], place)
            given = node.args
            self.assertFalse(given.vararg or given.kwarg or given.kwonlyargs or given.posonlyargs, place)

    def test_loops_tries_and_assignments(self):
        for place, node in nodes((ast.For, ast.While)):
            self.assertEqual(node.orelse, [], place)
        for place, node in nodes(ast.Try):
            self.assertEqual(node.finalbody, [], place)
        for place, node in nodes(ast.Assign):
            self.assertEqual(len(node.targets), 1, place)
            self.assertIsInstance(node.targets[0], (ast.Name, ast.Attribute, ast.Subscript), place)
        for place, node in nodes(ast.ListComp):
            self.assertEqual(len(node.generators), 1, place)
            self.assertLessEqual(len(node.generators[0].ifs), 1, place)

    def test_imports(self):
        defined = {}
        for path, text in sources().items():
            defined[f"trickboard.{path.stem}"] = {getattr(node, "name", None) for node in ast.parse(text).body}
        drawn = {}
        for place, node in nodes(ast.ImportFrom):
            self.assertEqual(node.level, 0, place)
            self.assertIn(node.module, defined, place)
            for alias in node.names:
                self.assertIn(alias.name, defined[node.module], place)
            drawn.setdefault("trickboard." + place.split(".")[0], []).append(node.module)
        self.assertNotIn("trickboard.__init__", drawn)
        for start in drawn:
            reached = list(drawn[start])
            for module in reached:
                reached += [other for other in drawn.get(module, []) if other not in reached]
            self.assertNotIn(start, reached)

    def test_names(self):
        for path, text in sources().items():
            tree = ast.parse(text)
            bound = bound_names(tree)
            for name in bound - {"__init__"}:
                self.assertRegex(name, r"\A[A-Za-z][A-Za-z0-9_]*\Z", path.name)
                self.assertNotIn(name, dir(builtins), path.name)
            for node in ast.walk(tree):
                if isinstance(node, ast.Name):
                    self.assertIn(node.id, bound | BUILTINS, f"{path.name}:{node.lineno}")

    def test_top_names_are_bound_once_and_not_taken_by_locals(self):
        for path, text in sources().items():
            body = ast.parse(text).body
            tops = [name for node in body if not isinstance(node, ast.Expr)
                    for name in (bound_names(node) if isinstance(node, (ast.ImportFrom, ast.Assign)) else [node.name])]
            self.assertEqual(len(tops), len(set(tops)), path.name)
            for node in body:
                if isinstance(node, ast.FunctionDef):
                    self.assertEqual((bound_names(node) - {node.name}) & set(tops), set(), f"{path.name}:{node.name}")

    def test_methods_of_pythons_own_values(self):
        for place, node in nodes(ast.Call):
            if isinstance(node.func, ast.Attribute):
                self.assertIn(node.func.attr, METHODS, place)
            else:
                self.assertIsInstance(node.func, ast.Name, place)

    def test_is_stands_beside_none_true_and_false_alone(self):
        for place, node in nodes(ast.Compare):
            for operator, other in zip(node.ops, node.comparators):
                if isinstance(operator, (ast.Is, ast.IsNot)):
                    self.assertIsInstance(other, ast.Constant, place)
                    self.assertIn(other.value, (None, True, False), place)


if __name__ == "__main__":
    unittest.main()
