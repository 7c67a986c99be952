"""The package keeps to its small part of the language, as far as a short look can tell."""

import ast
import re
import unittest
from pathlib import Path

PACKAGE = Path(__file__).resolve().parent.parent / "carrytower"
WORDS = re.compile(
    r"\b(type|typing|typing_extensions|enum|Enum|IntEnum|StrEnum|Flag|IntFlag|Generic|Protocol|ABC|ABCMeta|namedtuple"
    r"|NamedTuple|TypedDict|TYPE_CHECKING|abstractmethod)\b|dataclass|overload|contextmanager"
)
BUILT_IN = set(dir(__builtins__) if not isinstance(__builtins__, dict) else __builtins__)
OWN = set(
    "len range enumerate zip min max sum abs sorted reversed int str bool bytes list tuple dict set frozenset isinstance"
    " ord repr any all divmod Exception ValueError TypeError KeyError IndexError LookupError ZeroDivisionError"
    " ArithmeticError OverflowError RuntimeError NotImplementedError AttributeError StopIteration".split()
)
OUT = (
    ast.With, ast.Match, ast.Global, ast.Nonlocal, ast.Yield, ast.YieldFrom, ast.GeneratorExp, ast.NamedExpr, ast.Div,
    ast.AsyncFunctionDef, ast.Await, ast.Import, ast.Starred,
)
WALKED = ("range", "zip", "enumerate", "reversed")


def files():
    return sorted(path for path in PACKAGE.rglob("*") if path.is_file() and "__pycache__" not in path.parts)


def nodes(kind=ast.AST):
    for path in files():
        for node in ast.walk(ast.parse(path.read_text())):
            if isinstance(node, kind):
                yield f"{path.name}:{getattr(node, 'lineno', 0)}", node


class Form(unittest.TestCase):
    def test_files_and_signs(self):
        self.assertTrue((PACKAGE / "__init__.py").is_file())
        for path in files():
            self.assertRegex(path.name, r"^[a-z0-9_]+\.py$")
            text = path.read_text(encoding="utf-8")
            self.assertTrue(all(sign == "\n" or " " <= sign <= "~" for sign in text), path.name)
            self.assertIsNone(WORDS.search(text), path.name)
            self.assertLessEqual(len(text.splitlines()), 400, path.name)
            self.assertLessEqual(max(len(row) for row in text.splitlines()), 120, path.name)

    def test_imports(self):
        drawn = {}
        for path in files():
            rows = [n for n in ast.walk(ast.parse(path.read_text())) if isinstance(n, ast.ImportFrom)]
            self.assertTrue(all(row.level == 0 and row.module.startswith("carrytower.") for row in rows), path.name)
            drawn["carrytower." + path.stem] = {row.module for row in rows}
        while drawn:
            free = [name for name, needed in drawn.items() if not needed & set(drawn)]
            self.assertTrue(free, f"drawn from one another: {sorted(drawn)}")
            for name in free:
                drawn.pop(name)

    def test_nothing_that_is_out(self):
        for place, node in nodes():
            self.assertNotIsInstance(node, OUT, place)
            if isinstance(node, ast.Constant):
                self.assertNotIsInstance(node.value, (float, complex), place)
                self.assertNotIn("%", str(node.value), place)
            if isinstance(node, ast.Compare) and any(isinstance(op, (ast.Is, ast.IsNot)) for op in node.ops):
                self.assertTrue(all(isinstance(k, ast.Constant) for k in node.comparators), place)
            if isinstance(node, (ast.For, ast.While)):
                self.assertFalse(node.orelse, place)
            if isinstance(node, ast.Assign) and isinstance(node.value, ast.Call):
                self.assertNotIn(getattr(node.value.func, "id", ""), WALKED, place)

    def test_functions(self):
        for place, node in nodes(ast.FunctionDef):
            self.assertLessEqual(node.end_lineno - node.lineno + 1, 40, place)
            self.assertFalse(node.decorator_list, place)
            self.assertIsNone(node.args.vararg or node.args.kwarg, place)
            self.assertFalse(node.args.posonlyargs, place)

    def test_names(self):
        for place, node in nodes((ast.Name, ast.arg, ast.FunctionDef, ast.ClassDef, ast.Attribute)):
            name = next(getattr(node, field) for field in ("id", "arg", "name", "attr") if hasattr(node, field))
            self.assertTrue(not name.startswith("_") or name == "__init__", f"{place} {name}")
            self.assertNotEqual(name, "elements", place)
            if isinstance(node, ast.Name) and isinstance(node.ctx, ast.Load) and name in BUILT_IN:
                self.assertIn(name, OWN, place)
            elif isinstance(node, ast.arg) or isinstance(getattr(node, "ctx", None), ast.Store):
                self.assertFalse(isinstance(node, (ast.Name, ast.arg)) and name in BUILT_IN, f"{place} {name}")

    def test_no_name_is_a_method_and_a_value(self):
        methods = {row.name for _, made in nodes(ast.ClassDef) for row in made.body if isinstance(row, ast.FunctionDef)}
        values = {node.attr for _, node in nodes(ast.Attribute) if isinstance(node.ctx, ast.Store)}
        self.assertEqual(methods & values, set())


if __name__ == "__main__":
    unittest.main()
