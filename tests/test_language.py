"""Holds the package's files to the small part of Python that the program keeps to."""

import ast
import builtins
import re
import unittest
from pathlib import Path

PACKAGE = Path(__file__).resolve().parent.parent / "evenkinds"

PYTHONS_OWN = """len range enumerate zip min max sum abs sorted reversed int str bool list tuple dict set frozenset
isinstance ord repr any all divmod Exception ValueError TypeError KeyError IndexError LookupError ZeroDivisionError
ArithmeticError OverflowError RuntimeError NotImplementedError AttributeError StopIteration""".split()

METHODS = """append clear copy count endswith extend find get index insert isalnum isalpha isdigit islower isspace
isupper items join keys ljust lower lstrip partition pop remove replace reverse rfind rjust rpartition rsplit rstrip
setdefault split splitlines startswith strip update upper values zfill bit_length""".split()

CHANGES = ("append", "clear", "extend", "insert", "pop", "remove", "reverse", "setdefault", "update")

WALKED = ("zip", "enumerate", "reversed", "range")
WALKS = ("list", "tuple", "dict", "sorted", "sum", "any", "all", "enumerate", "zip", "min", "max")

NODES = """Module Expr Constant ImportFrom alias FunctionDef arguments arg ClassDef Assign AugAssign Name Load Store
If While For Return Break Continue Pass Raise Try ExceptHandler Call keyword Attribute Subscript Slice List Tuple Dict
BinOp Add Sub Mult FloorDiv Mod Pow BitAnd BitOr BitXor LShift RShift UnaryOp Not USub Invert BoolOp And Or Compare Eq
NotEq Lt LtE Gt GtE Is IsNot In NotIn IfExp Lambda ListComp comprehension JoinedStr FormattedValue""".split()

DUNDERS = ("__init__", "__eq__", "__repr__", "__str__", "__len__", "__all__", "__version__", "__name__")

NOT_USED = """register mro elements open input version_info with_traceback add_note attrgetter breakpoint builtins
compile copyright credits delattr dir eval exec exit gc getattr globals hasattr help id importlib license locals
methodcaller os quit setattr super type vars sys format format_map sort args encode""".split()

# Put together here, for words that stand nowhere.
NOWHERE = re.compile(
    r"\b(type|typing|typing_extensions|enum|Enum|IntEnum|StrEnum|Flag|IntFlag|Generic|Protocol|ABC|ABCMeta|namedtuple"
    r"|NamedTuple|TypedDict|TYPE_CHECKING|abstractmethod)\b|dataclass|overload|contextmanager"
)


def files():
    return sorted(PACKAGE.glob("*.py"))


def called(node):
    return node.func.id if isinstance(node, ast.Call) and isinstance(node.func, ast.Name) else None


class Language(unittest.TestCase):
    def each(self):
        for path in files():
            text = path.read_text(encoding="utf-8")
            yield path, text, ast.parse(text)

    def ok(self, good, path, node):
        self.assertTrue(good, f"{path.name}:{getattr(node, 'lineno', node)}")

    def test_files_and_signs(self):
        self.assertIn("__init__.py", [path.name for path in files()])
        for path in PACKAGE.iterdir():
            if path.name != "__pycache__":
                self.assertRegex(path.name, r"^[a-z0-9_]+\.py$")
                self.assertNotIn(path.stem, dir(builtins))
        for path, text, tree in self.each():
            rows = text.split("\n")
            self.assertLessEqual(len(rows), 400)
            for number, row in enumerate(rows, 1):
                self.ok(len(row) <= 120 and all(" " <= sign <= "~" for sign in row), path, number)
                self.ok(NOWHERE.search(row) is None, path, number)

    def test_forms(self):
        for path, text, tree in self.each():
            for node in ast.walk(tree):
                self.ok(type(node).__name__ in NODES, path, node)
                if isinstance(node, ast.FunctionDef):
                    self.function(path, node)
                if isinstance(node, ast.ClassDef):
                    self.ok(not node.decorator_list and not node.keywords and len(node.bases) <= 1, path, node)
                    self.ok(all(isinstance(one, (ast.FunctionDef, ast.Pass)) for one in node.body), path, node)
                if isinstance(node, (ast.For, ast.While)):
                    self.ok(not node.orelse, path, node)
                if isinstance(node, ast.Assign):
                    self.ok(len(node.targets) == 1, path, node)
                if isinstance(node, ast.ListComp):
                    self.ok(len(node.generators) == 1 and len(node.generators[0].ifs) <= 1, path, node)
                if isinstance(node, ast.Try):
                    self.ok(not node.finalbody and all(one.type for one in node.handlers), path, node)
                if isinstance(node, ast.Expr):
                    first = node is tree.body[0] and isinstance(node.value, ast.Constant)
                    self.ok(first or isinstance(node.value, ast.Call), path, node)

    def function(self, path, node):
        plain = node.args
        self.ok(not (plain.vararg or plain.kwarg or plain.kwonlyargs or plain.posonlyargs), path, node)
        self.ok(not node.decorator_list, path, node)
        self.ok(node.end_lineno - node.lineno < 40, path, node)

    def test_values(self):
        for path, text, tree in self.each():
            for node in ast.walk(tree):
                if isinstance(node, ast.Constant):
                    self.ok(node.value is None or type(node.value) in (int, str, bool), path, node)
                    self.ok(not isinstance(node.value, str) or "%" not in node.value, path, node)
                if isinstance(node, ast.BinOp) and isinstance(node.op, ast.Pow):
                    self.ok(isinstance(node.right, ast.Constant) and 0 <= node.right.value <= 64, path, node)
                if isinstance(node, ast.Compare):
                    for op, right in zip(node.ops, node.comparators):
                        if isinstance(op, (ast.Is, ast.IsNot)):
                            self.ok(isinstance(right, ast.Constant) and right.value in (None, True, False), path, node)

    def test_top(self):
        for path, text, tree in self.each():
            self.assertIsNotNone(ast.get_docstring(tree))
            bound = []
            for node in tree.body[1:]:
                self.ok(isinstance(node, (ast.ImportFrom, ast.FunctionDef, ast.ClassDef, ast.Assign)), path, node)
                if isinstance(node, ast.ImportFrom):
                    bound.extend(one.name for one in node.names)
                elif isinstance(node, ast.Assign):
                    self.ok(isinstance(node.targets[0], ast.Name), path, node)
                    bound.append(node.targets[0].id)
                    inside = list(ast.walk(node.value))[1:]
                    self.ok(not any(isinstance(one, (ast.List, ast.Dict, ast.Call)) for one in inside), path, node)
                else:
                    bound.append(node.name)
            self.assertEqual(len(set(bound)), len(bound), path.name)

    def test_imports(self):
        defined, drawn = {}, {}
        for path, text, tree in self.each():
            defined[path.stem] = [one.name for one in tree.body if isinstance(one, (ast.FunctionDef, ast.ClassDef))]
            defined[path.stem] += [one.targets[0].id for one in tree.body if isinstance(one, ast.Assign)]
            drawn[path.stem] = [one for one in ast.walk(tree) if isinstance(one, ast.ImportFrom)]
        for stem, rows in drawn.items():
            for row in rows:
                self.assertEqual((row.level, row.col_offset), (0, 0))
                self.assertRegex(row.module, r"^evenkinds\.[a-z0-9_]+$")
                for one in row.names:
                    self.assertIsNone(one.asname)
                    self.assertIn(one.name, defined[row.module.split(".")[1]])
        self.assertEqual(drawn["__init__"], [])
        self.assertEqual(defined["__init__"], [])
        done = ["__init__"]
        while len(done) < len(drawn):
            ready = [stem for stem, rows in drawn.items() if stem not in done
                     and all(row.module.split(".")[1] in done for row in rows)]
            self.assertNotEqual(ready, [], "files draw from one another")
            done.extend(ready)

    def test_names(self):
        own_methods, own_values = set(), set()
        for path, text, tree in self.each():
            for node in ast.walk(tree):
                if isinstance(node, ast.ClassDef):
                    own_methods |= {one.name for one in node.body if isinstance(one, ast.FunctionDef)}
                if isinstance(node, ast.Attribute) and isinstance(node.ctx, ast.Store):
                    own_values.add(node.attr)
        self.assertEqual(own_methods & own_values, set())
        for path, text, tree in self.each():
            taken = [one.name for row in tree.body if isinstance(row, ast.ImportFrom) for one in row.names]
            taken += [one.name for one in tree.body if isinstance(one, ast.ClassDef)]
            tops = [one.name for one in tree.body if isinstance(one, (ast.FunctionDef, ast.ClassDef))]
            for node in ast.walk(tree):
                if isinstance(node, ast.Attribute):
                    self.ok(node.attr in METHODS or node.attr in own_methods | own_values, path, node)
                    self.ok(node.attr not in NOT_USED, path, node)
                bound = self.bound(node)
                if bound is not None:
                    self.ok(re.fullmatch(r"[A-Za-z][A-Za-z0-9_]*", bound) or bound in DUNDERS, path, node)
                    self.ok(bound not in NOT_USED and bound not in dir(builtins), path, node)
                    self.ok(bound not in taken or bound in tops, path, node)
                if isinstance(node, ast.Name) and hasattr(builtins, node.id):
                    self.ok(node.id in PYTHONS_OWN, path, node)

    def bound(self, node):
        if isinstance(node, ast.arg):
            return node.arg
        if isinstance(node, ast.FunctionDef):
            return node.name
        if isinstance(node, ast.Name) and isinstance(node.ctx, ast.Store):
            return node.id
        return None

    def test_walked_at_once(self):
        for path, text, tree in self.each():
            good = set()
            for node in ast.walk(tree):
                if isinstance(node, (ast.For, ast.comprehension)):
                    good.add(node.iter)
                if called(node) in WALKS:
                    good.update(node.args)
            for node in ast.walk(tree):
                walked = called(node) in WALKED or (
                    isinstance(node, ast.Call) and isinstance(node.func, ast.Attribute)
                    and node.func.attr in ("items", "keys", "values"))
                self.ok(not walked or node in good, path, node)

    def test_what_stands_at_the_top_is_not_changed(self):
        for path, text, tree in self.each():
            tops = [one.targets[0].id for one in tree.body if isinstance(one, ast.Assign)]
            for node in ast.walk(tree):
                if isinstance(node, ast.Attribute) and isinstance(node.value, ast.Name) and node.value.id in tops:
                    self.ok(node.attr not in CHANGES, path, node)
                if isinstance(node, ast.Subscript) and isinstance(node.ctx, ast.Store):
                    self.ok(not isinstance(node.value, ast.Name) or node.value.id not in tops, path, node)


if __name__ == "__main__":
    unittest.main()
