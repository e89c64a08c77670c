"""Those rules of the written form that can be counted: sizes, signs, imports, words, kinds of rows and names."""

import ast
import pathlib
import re
import unittest

PACKAGE = pathlib.Path(__file__).resolve().parent.parent / "flaghoistsyard"
BUILT_IN = """len range enumerate zip min max sum abs sorted reversed int str bool list tuple dict set frozenset
    isinstance ord repr any all divmod Exception ValueError TypeError KeyError IndexError LookupError
    ZeroDivisionError ArithmeticError OverflowError RuntimeError NotImplementedError AttributeError
    StopIteration""".split()
METHODS = """append clear copy count endswith extend find get index insert isalnum isalpha isdigit islower isspace
    isupper items join keys ljust lower lstrip partition pop remove replace reverse rfind rjust rpartition rsplit
    rstrip setdefault split splitlines startswith strip update upper values zfill bit_length __init__""".split()
WORDS_OUT = re.compile(
    r"\b(type|typing|typing_extensions|enum|Enum|IntEnum|StrEnum|Flag|IntFlag|Generic|Protocol|ABC|ABCMeta|namedtuple"
    r"|NamedTuple|TypedDict|TYPE_CHECKING|abstractmethod)\b|dataclass|overload|contextmanager"
)
KINDS_OUT = (
    ast.With, ast.Match, ast.Delete, ast.Global, ast.Nonlocal, ast.Assert, ast.Yield, ast.YieldFrom, ast.Await,
    ast.AsyncFunctionDef, ast.AsyncFor, ast.AsyncWith, ast.Import, ast.SetComp, ast.DictComp, ast.GeneratorExp,
    ast.NamedExpr, ast.Starred, ast.Div, ast.AnnAssign, ast.Set,
)


def sources():
    return [(path, path.read_text(encoding="utf-8")) for path in sorted(PACKAGE.rglob("*.py"))]


def nodes():
    return [(path.name, node) for path, source in sources() for node in ast.walk(ast.parse(source))]


def bound_names(node):
    """The names that a row of the package binds."""
    if isinstance(node, (ast.FunctionDef, ast.ClassDef)):
        return [node.name]
    if isinstance(node, ast.arg):
        return [node.arg]
    if isinstance(node, ast.ImportFrom):
        return [alias.name for alias in node.names]
    if isinstance(node, ast.Name) and isinstance(node.ctx, ast.Store):
        return [node.id]
    if isinstance(node, ast.ExceptHandler) and node.name:
        return [node.name]
    if isinstance(node, ast.Attribute) and isinstance(node.ctx, ast.Store):
        return [node.attr]
    return []


class Language(unittest.TestCase):
    def test_files(self):
        self.assertTrue((PACKAGE / "signals.py").is_file())
        self.assertTrue((PACKAGE / "__init__.py").is_file())
        for path in PACKAGE.rglob("*"):
            if "__pycache__" not in path.parts:
                self.assertRegex(path.name, r"^[a-z_]+\.py$")

    def test_sizes_and_signs(self):
        for path, source in sources():
            self.assertLessEqual(len(source.splitlines()), 399, path)
            self.assertLessEqual(max(len(line) for line in source.splitlines()), 120, path)
            self.assertRegex(source, r"\A[ -~\n]*\Z", str(path))
        for name, node in nodes():
            if isinstance(node, ast.FunctionDef):
                self.assertLessEqual(node.end_lineno - node.lineno + 1, 40, (name, node.name))

    def test_words_and_kinds_that_are_out(self):
        for path, source in sources():
            self.assertNotRegex(source, WORDS_OUT, str(path))
        for name, node in nodes():
            self.assertNotIsInstance(node, KINDS_OUT, (name, getattr(node, "lineno", 0)))
            if isinstance(node, (ast.For, ast.While)):
                self.assertEqual(node.orelse, [], (name, node.lineno))
            if isinstance(node, ast.Constant):
                self.assertIn(type(node.value), (int, str, bool, type(None)), (name, node.lineno))
                self.assertNotIn("%", str(node.value), (name, node.lineno))

    def test_imports_are_of_the_package(self):
        for name, node in nodes():
            if isinstance(node, ast.ImportFrom):
                self.assertEqual(node.level, 0, name)
                self.assertRegex(node.module, r"^flaghoistsyard\.[a-z]+$", name)
                self.assertNotIn("*", [alias.name for alias in node.names])

    def test_names(self):
        bound = [one for name, node in nodes() for one in bound_names(node)]
        known = dir(__builtins__) if not isinstance(__builtins__, dict) else list(__builtins__)
        for one in bound:
            self.assertNotIn(one, known)
            if one != "__init__":
                self.assertRegex(one, r"^[A-Za-z][A-Za-z0-9_]*$")
        for name, node in nodes():
            if isinstance(node, ast.Name) and isinstance(node.ctx, ast.Load):
                self.assertIn(node.id, bound + BUILT_IN, (name, node.lineno))
            if isinstance(node, ast.Attribute):
                self.assertIn(node.attr, bound + METHODS, (name, node.lineno))


if __name__ == "__main__":
    unittest.main()
