"""The package keeps to the part of Python that it is held to, as far as can be seen from its rows and its tree."""

import ast
import re
import unittest
from pathlib import Path

PACKAGE = Path(__file__).resolve().parent.parent / "toldforms"
FILES = sorted(path for path in PACKAGE.rglob("*") if path.is_file() and "__pycache__" not in path.parts)
NODES = """Module Expr Assign AugAssign If While For Return Break Continue Pass Raise Try ExceptHandler Call FunctionDef
ClassDef ImportFrom alias arguments arg Name Load Store Constant List Tuple Dict Set BinOp UnaryOp BoolOp Compare IfExp
Attribute Subscript Slice ListComp comprehension JoinedStr FormattedValue Lambda keyword Add Sub Mult FloorDiv Mod Pow
BitAnd BitOr BitXor Invert LShift RShift USub UAdd Not And Or Eq NotEq Lt LtE Gt GtE Is IsNot In NotIn""".split()
BUILT_IN = """len range enumerate zip min max sum abs sorted reversed int str bool list tuple dict set frozenset
isinstance ord repr any all divmod ValueError KeyError NotImplementedError""".split()
METHODS = """append clear copy count endswith extend find get index insert isalnum isalpha isdigit islower isspace
isupper items join keys ljust lower lstrip partition pop remove replace reverse rfind rjust rpartition rsplit rstrip
setdefault split splitlines startswith strip update upper values zfill bit_length""".split()
WORDS = """type typing typing_extensions enum Enum IntEnum StrEnum Flag IntFlag Generic Protocol ABC ABCMeta namedtuple
NamedTuple TypedDict TYPE_CHECKING abstractmethod""".split()


class LanguageTest(unittest.TestCase):
    def test_files(self):
        self.assertIn(PACKAGE / "__init__.py", FILES)
        for path in FILES:
            self.assertRegex(path.name, r"^[a-z0-9_]+\.py$")

    def test_rows(self):
        for path in FILES:
            source = path.read_bytes().decode("ascii")
            self.assertLessEqual(len(source.splitlines()), 400, path)
            self.assertEqual([sign for sign in source if not (" " <= sign <= "~" or sign == "\n")], [], path)
            self.assertEqual([row for row in source.splitlines() if len(row) > 120], [], path)
            self.assertEqual(sorted(set(re.findall(r"\w+", source)) & set(WORDS)), [], path)

    def test_trees(self):
        for path in FILES:
            tree = ast.parse(path.read_text())
            own = {node.name for node in ast.walk(tree) if isinstance(node, (ast.FunctionDef, ast.ClassDef))}
            own |= {node.arg for node in ast.walk(tree) if isinstance(node, ast.arg)}
            own |= {node.id for node in ast.walk(tree)
                    if isinstance(node, ast.Name) and isinstance(node.ctx, ast.Store)}
            own |= {node.name for node in ast.walk(tree) if isinstance(node, ast.alias)}
            self.assertEqual([name for name in own if name.startswith("_") and name != "__init__"], [], path)
            for node in ast.walk(tree):
                self.hold(path, node, own)

    def hold(self, path, node, own):
        where = (path.name, getattr(node, "lineno", 0))
        self.assertIn(node.__class__.__name__, NODES, where)
        if isinstance(node, ast.FunctionDef):
            self.assertLessEqual(node.end_lineno - node.lineno + 1, 40, where)
            self.assertEqual(node.decorator_list, [], where)
        if isinstance(node, ast.ImportFrom):
            self.assertTrue(node.level == 0 and node.module.startswith("toldforms."), where)
        if isinstance(node, ast.Name) and isinstance(node.ctx, ast.Load):
            self.assertTrue(node.id in own or node.id in BUILT_IN, where)
        if isinstance(node, ast.Assign):
            self.assertTrue(len(node.targets) == 1 and not isinstance(node.targets[0], ast.Tuple), where)
        if isinstance(node, ast.Constant):
            self.assertNotIsInstance(node.value, (float, bytes, complex), where)
        if isinstance(node, ast.BinOp) and isinstance(node.op, ast.Pow):
            self.assertIsInstance(node.right, ast.Constant, where)

    def test_methods(self):
        trees = [ast.parse(path.read_text()) for path in FILES]
        classes = [node for tree in trees for node in ast.walk(tree) if isinstance(node, ast.ClassDef)]
        own = {part.name for node in classes for part in node.body if isinstance(part, ast.FunctionDef)}
        kept = {node.attr for tree in trees for node in ast.walk(tree)
                if isinstance(node, ast.Attribute) and isinstance(node.ctx, ast.Store)}
        self.assertEqual(own & kept, set())
        for tree in trees:
            for node in ast.walk(tree):
                if isinstance(node, ast.Call) and isinstance(node.func, ast.Attribute):
                    self.assertIn(node.func.attr, own | set(METHODS), node.lineno)


if __name__ == "__main__":
    unittest.main()
