"""The package's files keep to the small part of Python that the program is written in."""

import ast
import builtins
import pathlib
import re
import unittest

PACKAGE = pathlib.Path(__file__).resolve().parent.parent / "frozeneditions"
FILES = sorted(PACKAGE.rglob("*.py"))
STATEMENTS = (ast.Assign, ast.AugAssign, ast.If, ast.While, ast.For, ast.Return, ast.Break, ast.Continue, ast.Pass,
              ast.Raise, ast.Try, ast.Expr, ast.FunctionDef, ast.ClassDef, ast.ImportFrom)
EXPRESSIONS = (ast.Constant, ast.List, ast.Tuple, ast.Dict, ast.BinOp, ast.UnaryOp, ast.BoolOp, ast.Compare, ast.IfExp,
               ast.Call, ast.Attribute, ast.Subscript, ast.Slice, ast.ListComp, ast.JoinedStr, ast.FormattedValue,
               ast.Name, ast.Lambda)
OWN_NAMES = set("""len range enumerate zip min max sum abs sorted reversed int str bool list tuple dict set frozenset
    isinstance ord repr any all divmod Exception ValueError TypeError KeyError IndexError LookupError
    ZeroDivisionError ArithmeticError OverflowError RuntimeError NotImplementedError StopIteration""".split())
METHODS = set("""append clear copy count endswith extend find get index insert isalnum isalpha isdigit islower isspace
    isupper items join keys ljust lower lstrip partition pop remove replace reverse rfind rjust rpartition rsplit
    rstrip setdefault split splitlines startswith strip update upper values zfill bit_length""".split())
WORDS_OUT = re.compile(r"\b(type|typing|typing_extensions|enum|Enum|IntEnum|StrEnum|Flag|IntFlag|Generic|Protocol|ABC"
                       r"|ABCMeta|namedtuple|NamedTuple|TypedDict|TYPE_CHECKING|abstractmethod)\b"
                       r"|dataclass|overload|contextmanager")


def trees():
    return [(path, ast.parse(path.read_text("ascii"))) for path in FILES]


def nodes():
    return [(path, node) for path, tree in trees() for node in ast.walk(tree)]


def bound_names(tree):
    """Parameters and locals: what a file's defs bind."""
    for node in ast.walk(tree):
        if isinstance(node, ast.arg):
            yield node.arg
        elif isinstance(node, ast.Name) and isinstance(node.ctx, ast.Store):
            yield node.id


class LanguageTest(unittest.TestCase):
    def test_files(self):
        self.assertIn("book.py", [path.name for path in FILES])
        for path in PACKAGE.rglob("*"):
            if "__pycache__" not in path.parts:
                self.assertRegex(path.name, r"^([a-z0-9_]+\.py)$")

    def test_signs_and_sizes(self):
        for path in FILES:
            text = path.read_text("ascii")
            self.assertRegex(text, r"\A[ -~\n]*\Z")
            self.assertIsNone(WORDS_OUT.search(text), path)
            lines = text.split("\n")
            self.assertLessEqual(len(lines), 400)
            self.assertLessEqual(max(len(line) for line in lines), 120)
        for path, node in nodes():
            if isinstance(node, ast.FunctionDef):
                self.assertLessEqual(node.end_lineno - node.lineno + 1, 40, (path, node.name))

    def test_statements_and_expressions(self):
        for path, node in nodes():
            place = (path.name, getattr(node, "lineno", 0), node)
            if isinstance(node, ast.stmt):
                self.assertIsInstance(node, STATEMENTS, place)
            if isinstance(node, ast.expr):
                self.assertIsInstance(node, EXPRESSIONS, place)
            if isinstance(node, ast.Assign):
                self.assertEqual(len(node.targets), 1, place)
            if isinstance(node, (ast.For, ast.While)):
                self.assertEqual(node.orelse, [], place)
            if isinstance(node, ast.ListComp):
                self.assertEqual(len(node.generators), 1, place)
            if isinstance(node, ast.BinOp):
                self.assertNotIsInstance(node.op, (ast.Div, ast.MatMult), place)
            if isinstance(node, ast.Constant):
                self.assertIsInstance(node.value, (int, str, type(None)), place)
            if isinstance(node, ast.FunctionDef):
                self.assertEqual(node.decorator_list, [], place)

    def test_imports(self):
        for path, tree in trees():
            for node in tree.body:
                if isinstance(node, ast.ImportFrom):
                    self.assertEqual(node.level, 0)
                    source = PACKAGE.parent / (node.module.replace(".", "/") + ".py")
                    defined = {getattr(one, "name", None) for one in ast.parse(source.read_text()).body}
                    defined |= {one.targets[0].id for one in ast.parse(source.read_text()).body
                                if isinstance(one, ast.Assign)}
                    self.assertLessEqual({name.name for name in node.names}, defined, path)

    def test_no_two_files_draw_from_one_another(self):
        drawn = {f"{PACKAGE.name}.{path.stem}": {node.module for node in tree.body if isinstance(node, ast.ImportFrom)}
                 for path, tree in trees()}
        while drawn:
            # Take away those that draw from none of the others, until none is left.
            free = [name for name, sources in drawn.items() if not sources & set(drawn)]
            self.assertNotEqual(free, [], drawn)
            drawn = {name: sources for name, sources in drawn.items() if name not in free}

    def test_names(self):
        for path, tree in trees():
            imported = {name.name for node in tree.body if isinstance(node, ast.ImportFrom) for name in node.names}
            classes = {node.name for node in tree.body if isinstance(node, ast.ClassDef)}
            bound = set(bound_names(tree))
            self.assertEqual(bound & (imported | classes | set(dir(builtins))), set(), path)
            used = {node.id for node in ast.walk(tree) if isinstance(node, ast.Name)}
            self.assertLessEqual(used & set(dir(builtins)), OWN_NAMES, path)
            self.assertEqual([name for name in used | bound if name.startswith("_")], [], path)

    def test_methods_and_values(self):
        own = set()
        values = set()
        for _, node in nodes():
            if isinstance(node, ast.ClassDef):
                own |= {one.name for one in node.body if isinstance(one, ast.FunctionDef)}
            if isinstance(node, ast.Attribute) and isinstance(node.ctx, ast.Store):
                values.add(node.attr)
        self.assertEqual(own & values, set())
        for path, node in nodes():
            if isinstance(node, ast.Attribute):
                self.assertIn(node.attr, own | values | METHODS, (path.name, node.lineno))
