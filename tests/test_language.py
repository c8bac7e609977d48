"""The part of Python that the package keeps to, as far as a plain walk through its files can see it."""

import ast
import builtins
import re
import unittest
from pathlib import Path

PACKAGE = Path(__file__).resolve().parent.parent / "openfaces"
FILES = sorted(PACKAGE.glob("*.py"))
NODES = """Module Import ImportFrom alias FunctionDef ClassDef arguments arg Lambda Return Assign AugAssign For While If
    Break Continue Pass Raise Try ExceptHandler Expr BoolOp BinOp UnaryOp IfExp Dict Set ListComp comprehension Compare
    Call keyword FormattedValue JoinedStr Constant Attribute Subscript Name List Tuple Slice Load Store And Or Add Sub Mult
    FloorDiv Mod Pow LShift RShift BitOr BitXor BitAnd Invert Not UAdd USub Eq NotEq Lt LtE Gt GtE Is IsNot In
    NotIn""".split()
OWN_NAMES = """len range enumerate zip min max sum abs sorted reversed int str bool list tuple dict set frozenset
    isinstance ord repr any all divmod Exception ValueError TypeError KeyError IndexError LookupError ZeroDivisionError
    ArithmeticError OverflowError RuntimeError NotImplementedError AttributeError StopIteration""".split()
METHODS = """append clear copy count endswith extend find get index insert isalnum isalpha isdigit islower isspace
    isupper items join keys ljust lower lstrip partition pop remove replace reverse rfind rjust rpartition rsplit rstrip
    setdefault split splitlines startswith strip update upper values zfill bit_length""".split()
WORDS = """type typing typing_extensions enum Enum IntEnum StrEnum Flag IntFlag Generic Protocol ABC ABCMeta namedtuple
    NamedTuple TypedDict TYPE_CHECKING abstractmethod""".split()
WALKERS = "list tuple dict sorted sum any all enumerate zip min max".split()
NEVER = "register mro elements open input version_info with_traceback add_note format format_map".split()


def nodes_of(path, *kinds):
    return [node for node in ast.walk(ast.parse(path.read_text())) if isinstance(node, kinds)]


def bound_in(tree):
    """All names that a tree binds, as parameters, locals, functions, classes or imports."""
    found = [node.id for node in ast.walk(tree) if isinstance(node, ast.Name) and isinstance(node.ctx, ast.Store)]
    for node in ast.walk(tree):
        if isinstance(node, ast.arg):
            found.append(node.arg)
        elif isinstance(node, (ast.FunctionDef, ast.ClassDef)):
            found.append(node.name)
        elif isinstance(node, ast.alias):
            found.append(node.asname or node.name)
        elif isinstance(node, ast.ExceptHandler) and node.name:
            found.append(node.name)
    return found


class Language(unittest.TestCase):
    def test_files(self):
        others = [path.name for path in PACKAGE.iterdir() if path.suffix != ".py" and path.name != "__pycache__"]
        self.assertEqual(others, [])
        self.assertIn(PACKAGE / "mine.py", FILES)
        for path in FILES:
            self.assertRegex(path.name, r"\A([a-z][a-z0-9_]*|__init__)\.py\Z")
            self.assertNotIn(path.stem, dir(builtins))

    def test_signs_and_sizes(self):
        for path in FILES:
            source = path.read_text()
            self.assertRegex(source, r"\A[ -~\n]*\Z", path.name)
            self.assertLessEqual(len(source.splitlines()), 400, path.name)
            self.assertLessEqual(max([len(line) for line in source.splitlines()]), 120, path.name)
            for node in nodes_of(path, ast.FunctionDef):
                self.assertLessEqual(node.end_lineno - node.lineno + 1, 40, (path.name, node.name))

    def test_words(self):
        for path in FILES:
            found = set(re.findall(r"[A-Za-z_0-9]+", path.read_text()))
            self.assertEqual(found & set(WORDS), set(), path.name)
            self.assertEqual([word for word in found if re.search("dataclass|overload|contextmanager", word)], [])

    def test_forms(self):
        for path in FILES:
            for node in nodes_of(path, ast.AST):
                where = (path.name, getattr(node, "lineno", 0), type(node).__name__)
                self.assertIn(type(node).__name__, NODES, where)
                if isinstance(node, ast.Constant):
                    self.assertIsInstance(node.value, (int, str, bool, type(None)), where)
                if isinstance(node, ast.Assign):
                    self.assertEqual(len(node.targets), 1, where)
                if isinstance(node, (ast.For, ast.While, ast.Try)):
                    self.assertEqual(getattr(node, "finalbody", []) + node.orelse * (not isinstance(node, ast.Try)), [])
                if isinstance(node, ast.ListComp):
                    self.assertEqual((len(node.generators), len(node.generators[0].ifs) < 2), (1, True), where)
                if isinstance(node, (ast.FunctionDef, ast.ClassDef)):
                    self.assertEqual(node.decorator_list, [], where)
                if isinstance(node, ast.arguments):
                    self.assertEqual((node.vararg, node.kwarg, node.kwonlyargs, node.posonlyargs), (None, None, [], []))
                if isinstance(node, ast.Compare) and isinstance(node.ops[0], (ast.Is, ast.IsNot)):
                    self.assertIsInstance(node.comparators[0], ast.Constant, where)

    def test_walked_at_once(self):
        for path in FILES:
            walked = [node.iter for node in nodes_of(path, ast.For, ast.comprehension)]
            for node in nodes_of(path, ast.Call):
                if isinstance(node.func, ast.Name) and node.func.id in WALKERS:
                    walked += node.args if node.func.id == "zip" else node.args[:1]
            for node in nodes_of(path, ast.Call):
                name = getattr(node.func, "id", getattr(node.func, "attr", ""))
                if name in ("zip", "enumerate", "reversed", "range", "items", "keys", "values"):
                    same = [ast.dump(other, include_attributes=True) for other in walked]
                    self.assertIn(ast.dump(node, include_attributes=True), same, (path.name, node.lineno))

    def test_sets_stand_where_they_are_asked(self):
        for path in FILES:
            inner = [node.args[0] for node in nodes_of(path, ast.Call)
                     if getattr(node.func, "id", "") in ("len", "sorted") and node.args]
            for node in nodes_of(path, ast.Compare):
                inner += [node.left] + node.comparators
            allowed = [ast.dump(node, include_attributes=True) for node in inner]
            for node in nodes_of(path, ast.Call, ast.Set):
                if isinstance(node, ast.Set) or getattr(node.func, "id", "") in ("set", "frozenset"):
                    self.assertIn(ast.dump(node, include_attributes=True), allowed, (path.name, node.lineno))

    def test_tops_of_files(self):
        for path in FILES:
            for node in ast.parse(path.read_text()).body:
                where = (path.name, node.lineno)
                kinds = (ast.Expr, ast.ImportFrom, ast.FunctionDef, ast.ClassDef, ast.Assign)
                self.assertIsInstance(node, kinds, where)
                if isinstance(node, ast.Assign):
                    inner = [other for value in ast.iter_child_nodes(node.value) for other in ast.walk(value)]
                    self.assertEqual([other for other in inner if isinstance(other, (ast.List, ast.Dict))], [], where)

    def test_names(self):
        for path in FILES:
            bound = bound_in(ast.parse(path.read_text()))
            for name in bound:
                self.assertRegex(name, r"\A([A-Za-z][A-Za-z0-9_]*|__init__)\Z", path.name)
                self.assertNotIn(name, dir(builtins), path.name)
                self.assertNotIn(name, NEVER, path.name)
            used = [node.id for node in nodes_of(path, ast.Name)]
            self.assertEqual(set(used) - set(bound) - set(OWN_NAMES), set(), path.name)

    def test_attributes_and_methods(self):
        own = [name for path in FILES for node in nodes_of(path, ast.ClassDef) for name in bound_in(node)]
        for path in FILES:
            called = [node.func.attr for node in nodes_of(path, ast.Call) if isinstance(node.func, ast.Attribute)]
            self.assertEqual(set(called) - set(METHODS) - set(own), set(), path.name)
            kept = [node.attr for node in nodes_of(path, ast.Attribute)]
            self.assertEqual(set(kept) & set(NEVER), set(), path.name)

    def test_imports(self):
        drawn = {}
        for path in FILES:
            self.assertEqual(nodes_of(path, ast.Import), [], path.name)
            rows = nodes_of(path, ast.ImportFrom)
            drawn[path.stem] = {row.module.removeprefix("openfaces.") for row in rows}
            for row in rows:
                self.assertRegex(row.module, r"\Aopenfaces\.[a-z_]+\Z", path.name)
                self.assertEqual(row.level, 0, path.name)
                tree = ast.parse((PACKAGE / (row.module.split(".")[1] + ".py")).read_text())
                tops = [name for node in tree.body if not isinstance(node, ast.ImportFrom) for name in bound_in(node)]
                self.assertLessEqual({name.name for name in row.names}, set(tops), path.name)
            bound = [name.name for row in rows for name in row.names]
            self.assertEqual(sorted(set(bound)), sorted(bound), path.name)
            inner = [name for node in nodes_of(path, ast.FunctionDef) for name in bound_in(node)]
            self.assertEqual(set(inner) & set(bound), set(), path.name)
        while drawn:
            free = [name for name in drawn if not drawn[name] & set(drawn)]
            self.assertNotEqual(free, [], "files draw from one another in a circle")
            drawn = {name: drawn[name] for name in drawn if name not in free}


if __name__ == "__main__":
    unittest.main()
