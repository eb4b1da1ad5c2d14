"""Whether the package keeps to the small part of Python in which it is written, as far as a walk over its trees shows."""

import ast
import builtins
import pathlib
import re
import unittest

PACKAGE = pathlib.Path(__file__).resolve().parent.parent / "stintwise"

NODES = set("""
Module Expr Import ImportFrom alias FunctionDef arguments arg ClassDef Lambda
Assign AugAssign AnnAssign If While For Return Break Continue Pass Raise Try ExceptHandler
Constant List Tuple Dict Set ListComp comprehension JoinedStr FormattedValue
BinOp Add Sub Mult FloorDiv Mod Pow LShift RShift BitAnd BitOr BitXor UnaryOp USub UAdd Not Invert
BoolOp And Or Compare Eq NotEq Lt LtE Gt GtE In NotIn Is IsNot IfExp
Call keyword Attribute Subscript Slice Name Load Store
""".split())

OWN_NAMES = set("""
len range enumerate zip min max sum abs sorted reversed int str bool list tuple dict set frozenset isinstance ord
repr any all divmod Exception ValueError TypeError KeyError IndexError LookupError ZeroDivisionError ArithmeticError
OverflowError RuntimeError NotImplementedError AttributeError StopIteration
""".split())

METHODS = set("""
append clear copy count endswith extend find get index insert isalnum isalpha isdigit islower isspace isupper items
join keys ljust lower lstrip partition pop remove replace reverse rfind rjust rpartition rsplit rstrip setdefault
split splitlines startswith strip update upper values zfill bit_length __init__
""".split())

NOWHERE = re.compile(
    r"\b(type|typing|typing_extensions|enum|Enum|IntEnum|StrEnum|Flag|IntFlag|Generic|Protocol|ABC|ABCMeta|namedtuple"
    r"|NamedTuple|TypedDict|TYPE_CHECKING|abstractmethod)\b|dataclass|overload|contextmanager")

UNUSED = set("register mro elements open input version_info with_traceback add_note format format_map".split())

WALKED = set("zip enumerate reversed range items keys values".split())
WALKERS = set("list tuple dict sorted sum any all enumerate zip min max join".split())

NAME = re.compile(r"[A-Za-z][A-Za-z0-9_]*\Z")
DUNDERS = {"__init__", "__eq__", "__repr__", "__str__", "__len__"}


def files():
    return sorted(PACKAGE.glob("*.py"))


def trees():
    return [(path.name, ast.parse(path.read_text(encoding="ascii"))) for path in files()]


def walked(kind):
    """All nodes of a kind in the package, each with the words that tell its place."""
    for name, tree in trees():
        for node in ast.walk(tree):
            if isinstance(node, kind):
                yield node, "%s:%s" % (name, getattr(node, "lineno", 0))


def called(call):
    """The word by which something is called."""
    return call.func.id if isinstance(call.func, ast.Name) else call.func.attr


def bound_in(node):
    """All names that are bound within a tree, at whatever depth."""
    names = [each.id for each in ast.walk(node) if isinstance(each, ast.Name) and isinstance(each.ctx, ast.Store)]
    return names + [each.arg for each in ast.walk(node) if isinstance(each, ast.arg)]


def top_names(tree):
    """The names that are bound at a file's top, as often as they are."""
    names = []
    for node in tree.body:
        if isinstance(node, ast.ImportFrom):
            names.extend(alias.asname or alias.name for alias in node.names)
        elif isinstance(node, (ast.FunctionDef, ast.ClassDef)):
            names.append(node.name)
        elif isinstance(node, ast.Assign):
            names.extend(target.id for target in node.targets)
    return names


class Language(unittest.TestCase):

    def test_files_lines_and_signs(self):
        self.assertIn("__init__.py", [path.name for path in files()])
        others = [path for path in PACKAGE.iterdir() if path.suffix != ".py" and path.name != "__pycache__"]
        self.assertEqual(others, [])
        for path in files():
            text = path.read_bytes().decode("ascii")
            self.assertRegex(path.name, r"\A(__init__|__main__|[a-z][a-z0-9_]*)\.py\Z")
            self.assertTrue(all(sign == "\n" or " " <= sign <= "~" for sign in text), path.name)
            self.assertLessEqual(len(text.splitlines()), 400, path.name)
            self.assertLessEqual(max([len(line) for line in text.splitlines()], default=0), 120, path.name)
            self.assertIsNone(NOWHERE.search(text), path.name)

    def test_forms(self):
        for node, place in walked(ast.AST):
            self.assertIn(node.__class__.__name__, NODES, place)
        for node, place in walked(ast.Constant):
            self.assertIn(node.value.__class__, (int, str, bool, None.__class__), place)
        for node, place in walked((ast.For, ast.While)):
            self.assertEqual(node.orelse, [], place)
        for node, place in walked(ast.Try):
            self.assertEqual(node.finalbody, [], place)
        for node, place in walked(ast.ListComp):
            self.assertEqual(len(node.generators), 1, place)
            self.assertLessEqual(len(node.generators[0].ifs), 1, place)
        for node, place in walked(ast.Assign):
            self.assertEqual(len(node.targets), 1, place)
        for node, place in walked(ast.Compare):
            if any(isinstance(sign, (ast.Is, ast.IsNot)) for sign in node.ops):
                beside = [each for each in [node.left] + node.comparators if isinstance(each, ast.Constant)]
                self.assertTrue(any(each.value in (None, True, False) for each in beside), place)

    def test_defs_and_classes(self):
        for node, place in walked(ast.FunctionDef):
            self.assertLessEqual(node.end_lineno - node.lineno + 1, 40, place)
            self.assertEqual(node.decorator_list, [], place)
            self.assertEqual((node.args.vararg, node.args.kwarg, node.args.kwonlyargs), (None, None, []), place)
            self.assertTrue(node.name in DUNDERS or NAME.match(node.name), place)
        for node, place in walked(ast.ClassDef):
            self.assertEqual((node.decorator_list, node.keywords), ([], []), place)
            self.assertLessEqual(len(node.bases), 1, place)
            for part in node.body:
                self.assertTrue(isinstance(part, ast.FunctionDef) or isinstance(part.value, ast.Constant), place)

    def test_imports(self):
        modules = {path.stem for path in files()}
        drawn = {}
        for name, tree in trees():
            drawn[name[:-3]] = []
            for node in ast.walk(tree):
                self.assertNotIsInstance(node, ast.Import, name)
                if isinstance(node, ast.ImportFrom):
                    self.assertIn(node, tree.body, name)
                    self.assertEqual(node.level, 0, name)
                    package, dot, module = node.module.partition(".")
                    self.assertEqual(package, "stintwise", name)
                    self.assertIn(module, modules, name)
                    drawn[name[:-3]].append(module)
        while drawn:
            free = [module for module in drawn if not set(drawn[module]) & set(drawn)]
            self.assertNotEqual(free, [], "files that draw from one another: %s" % sorted(drawn))
            drawn = {module: drawn[module] for module in drawn if module not in free}

    def test_names(self):
        for name, tree in trees():
            top = top_names(tree)
            self.assertEqual(len(top), len(set(top)), name)
            classes = {node.name for node in tree.body if isinstance(node, ast.ClassDef)}
            drawn = {alias.name for node in tree.body if isinstance(node, ast.ImportFrom) for alias in node.names}
            for node in tree.body:
                if isinstance(node, (ast.FunctionDef, ast.ClassDef)):
                    for bound in bound_in(node):
                        self.assertRegex(bound, NAME, name)
                        self.assertNotIn(bound, classes | drawn | set(dir(builtins)), name)
            known = set(top) | set(bound_in(tree)) | OWN_NAMES
            for node in ast.walk(tree):
                if isinstance(node, ast.Name):
                    self.assertIn(node.id, known, name)
                    self.assertNotIn(node.id, UNUSED, name)

    def test_walked_on_the_spot(self):
        for name, tree in trees():
            calls = [(node, called(node)) for node in ast.walk(tree) if isinstance(node, ast.Call)]
            free = [node.iter for node in ast.walk(tree) if isinstance(node, (ast.For, ast.comprehension))]
            for node, word in calls:
                if word in WALKERS and (len(node.args) == 1 or word not in ("min", "max")):
                    free.extend(node.args[:1])
            for node, word in calls:
                if word in WALKED:
                    self.assertTrue(any(node is other for other in free), "%s:%d" % (name, node.lineno))

    def test_classes_and_handlers(self):
        classes = {node.name for node, place in walked(ast.ClassDef)}
        for node, place in walked(ast.ExceptHandler):
            self.assertIsInstance(node.type, ast.Name, place)
            self.assertIn(node.type.id, classes | {"KeyError", "ZeroDivisionError"}, place)
        for name, tree in trees():
            free = [node.type for node in ast.walk(tree) if isinstance(node, ast.ExceptHandler)]
            for node in ast.walk(tree):
                if isinstance(node, ast.ClassDef):
                    free.extend(node.bases)
                if isinstance(node, ast.Call):
                    free.append(node.func)
                    if called(node) == "isinstance":
                        free.append(node.args[1])
                # A base's own __init__ is called through its class.
                if isinstance(node, ast.Attribute) and node.attr == "__init__":
                    free.append(node.value)
            for node in ast.walk(tree):
                if isinstance(node, ast.Name) and node.id in classes:
                    self.assertTrue(any(node is other for other in free), "%s:%d" % (name, node.lineno))

    def test_methods_and_values(self):
        methods, values = set(), set()
        for node, place in walked(ast.ClassDef):
            methods |= {part.name for part in node.body if isinstance(part, ast.FunctionDef)}
        for node, place in walked(ast.Attribute):
            self.assertNotIn(node.attr, UNUSED, place)
            if isinstance(node.ctx, ast.Store):
                self.assertRegex(node.attr, NAME, place)
                values.add(node.attr)
        self.assertEqual(methods & values, set())
        for node, place in walked(ast.Call):
            if isinstance(node.func, ast.Attribute):
                self.assertIn(node.func.attr, methods | METHODS, place)


if __name__ == "__main__":
    unittest.main()
