"""The package's files keep to the small part of Python that LANGUAGE.md tells.

Only what can be seen row by row is looked at, and where a rule leaves a choice the narrower one is taken.
"""

import ast
import builtins
import pathlib
import re
import unittest

PACKAGE = pathlib.Path(__file__).resolve().parent.parent / "evenlots"

NODES = set("""
    Module FunctionDef ClassDef arguments arg Lambda Return Assign AugAssign For While If Raise Try ExceptHandler
    Import ImportFrom alias Expr Pass Break Continue BoolOp And Or BinOp Add Sub Mult FloorDiv Mod Pow
    LShift RShift BitOr BitXor BitAnd UnaryOp Invert Not UAdd USub IfExp Dict List Tuple ListComp comprehension
    Compare Eq NotEq Lt LtE Gt GtE Is IsNot In NotIn Call keyword JoinedStr FormattedValue Constant Attribute
    Subscript Slice Name Load Store
""".split())

PYTHONS_NAMES = set("""
    len range enumerate zip min max sum abs sorted reversed int str bool list tuple dict set frozenset isinstance
    ord repr any all divmod Exception ValueError TypeError KeyError IndexError LookupError ZeroDivisionError
    ArithmeticError OverflowError RuntimeError NotImplementedError StopIteration
""".split())

PYTHONS_METHODS = set("""
    append clear copy count endswith extend find get index insert isalnum isalpha isdigit islower isspace isupper
    items join keys ljust lower lstrip partition pop remove replace reverse rfind rjust rpartition rsplit rstrip
    setdefault split splitlines startswith strip update upper values zfill bit_length
""".split())

OWN_TWO_UNDERSCORES = set("__init__ __eq__ __repr__ __str__ __len__".split())

NO_NAMES = set("""
    register mro elements open input version_info with_traceback add_note attrgetter breakpoint builtins compile
    copyright credits delattr dir eval exec exit gc getattr globals hasattr help id importlib license locals
    methodcaller os quit setattr super type vars sys chr
""".split())

NO_WORDS = re.compile(r"""\b(type|typing|typing_extensions|enum|Enum|IntEnum|StrEnum|Flag|IntFlag|Generic|Protocol
    |ABC|ABCMeta|namedtuple|NamedTuple|TypedDict|TYPE_CHECKING|abstractmethod)\b
    |dataclass|overload|contextmanager""", re.VERBOSE)


# What may be called like a method of Python's own values: methods like these, and values like those.
FREE_METHODS = PYTHONS_METHODS | {"add", "discard"}
FREE_VALUES = set("count index title find get join lower upper split strip copy add".split())

# Walked on the spot, not kept; and what may walk them.
WALKED = set("zip enumerate reversed range".split())
WALKED_METHODS = set("items keys values".split())
WALKERS = set("list tuple dict sorted sum any all enumerate zip min max".split())


def files():
    return sorted(path for path in PACKAGE.rglob("*") if "__pycache__" not in path.parts)


def sources():
    return [(path, path.read_text(encoding="utf-8")) for path in files() if path.is_file()]


def trees():
    return [(path, ast.parse(text)) for path, text in sources()]


def nodes(*kinds):
    """Each node of these kinds, with a text that tells where it stands."""
    return [
        (f"{path.name}:{getattr(node, 'lineno', 0)}", node)
        for path, tree in trees() for node in ast.walk(tree) if isinstance(node, kinds)
    ]


def bound_names():
    """Each name that the package binds, with where."""
    found = [(place, node.name) for place, node in nodes(ast.FunctionDef, ast.ClassDef)]
    found += [(place, node.arg) for place, node in nodes(ast.arg)]
    found += [(place, node.id) for place, node in nodes(ast.Name) if isinstance(node.ctx, ast.Store)]
    found += [(place, node.name) for place, node in nodes(ast.ExceptHandler) if node.name]
    return found


def methods_and_values():
    """The methods and the values of the package's classes, by name."""
    methods = {
        part.name for place, node in nodes(ast.ClassDef) for part in node.body if isinstance(part, ast.FunctionDef)
    }
    values = {node.attr for place, node in nodes(ast.Attribute) if isinstance(node.ctx, ast.Store)}
    return (methods - OWN_TWO_UNDERSCORES, values)


def called(node):
    """The name that a call calls, or an empty text."""
    return node.func.id if isinstance(node, ast.Call) and isinstance(node.func, ast.Name) else ""


class Form(unittest.TestCase):
    def test_files(self):
        self.assertIn(PACKAGE / "__init__.py", files())
        for path in files():
            self.assertTrue(path.is_file() and re.fullmatch(r"(__init__|[a-z][a-z0-9_]*)\.py", path.name), path)

    def test_signs_and_words(self):
        for path, text in sources():
            self.assertIsNone(re.search(r"[^ -~\n]", text), path)
            self.assertIsNone(NO_WORDS.search(text), path)

    def test_sizes(self):
        for path, text in sources():
            rows = text.split("\n")
            self.assertLessEqual(len(rows), 400, path)
            self.assertLessEqual(max(map(len, rows)), 120, path)
        for place, node in nodes(ast.FunctionDef):
            self.assertLessEqual(node.end_lineno - node.lineno + 1, 40, place)

    def test_only_the_kinds_of_nodes_that_are_allowed(self):
        for place, node in nodes(ast.AST):
            self.assertIn(type(node).__name__, NODES, place)

    def test_the_top_of_a_module(self):
        for path, tree in trees():
            for at, node in enumerate(tree.body):
                is_docstring = at == 0 and isinstance(node, ast.Expr) and isinstance(node.value, ast.Constant)
                kinds = (ast.ImportFrom, ast.FunctionDef, ast.ClassDef, ast.Assign)
                self.assertTrue(is_docstring or isinstance(node, kinds), f"{path.name}:{node.lineno}")

    def test_imports(self):
        self.assertEqual(nodes(ast.Import), [])
        for place, node in nodes(ast.ImportFrom):
            self.assertEqual(node.level, 0, place)
            self.assertTrue(node.module.startswith("evenlots."), place)
            self.assertNotIn("*", [part.name for part in node.names], place)

    def test_functions_and_classes(self):
        for place, node in nodes(ast.arguments):
            self.assertFalse(node.vararg or node.kwarg or node.kwonlyargs or node.posonlyargs, place)
        for place, node in nodes(ast.FunctionDef, ast.ClassDef):
            self.assertEqual(node.decorator_list, [], place)
        for place, node in nodes(ast.ClassDef):
            self.assertLessEqual(len(node.bases), 1, place)
            self.assertEqual(node.keywords, [], place)
            for part in node.body:
                self.assertIsInstance(part, (ast.FunctionDef, ast.Pass), place)

    def test_statements(self):
        for place, node in nodes(ast.Assign):
            self.assertEqual(len(node.targets), 1, place)
            self.assertNotIsInstance(node.targets[0], (ast.Tuple, ast.List), place)
        for place, node in nodes(ast.For, ast.While):
            self.assertEqual(node.orelse, [], place)
        for place, node in nodes(ast.Try):
            self.assertEqual(node.finalbody, [], place)
        for place, node in nodes(ast.ExceptHandler):
            self.assertIsNotNone(node.type, place)
            taken = {part.id for part in ast.walk(node.type) if isinstance(part, ast.Name)}
            self.assertFalse(taken & {"Exception", "TypeError"}, place)
        for place, node in nodes(ast.comprehension):
            self.assertLessEqual(len(node.ifs), 1, place)
        for place, node in nodes(ast.ListComp):
            self.assertEqual(len(node.generators), 1, place)

    def test_names(self):
        pythons = set(dir(builtins))
        for place, name in bound_names():
            if name not in OWN_TWO_UNDERSCORES:
                self.assertRegex(name, r"\A[A-Za-z][A-Za-z0-9_]*\Z", place)
                self.assertNotIn(name, pythons | NO_NAMES, place)
        for place, node in nodes(ast.Name):
            self.assertNotIn(node.id, NO_NAMES, place)
            if node.id in pythons:
                self.assertIn(node.id, PYTHONS_NAMES, place)

    def test_methods(self):
        own = {name for place, name in bound_names()}
        own |= {node.attr for place, node in nodes(ast.Attribute) if isinstance(node.ctx, ast.Store)}
        for place, node in nodes(ast.Attribute):
            self.assertIn(node.attr, PYTHONS_METHODS | own, place)

    def test_methods_and_values_of_classes(self):
        methods, values = methods_and_values()
        self.assertEqual(methods & values, set())
        pythons = set().union(*(dir(kind) for kind in (str, int, list, dict, set, bytes, tuple)))
        self.assertEqual((methods & pythons) - FREE_METHODS, set())
        self.assertEqual((values & pythons) - FREE_VALUES, set())

    def test_no_local_is_called_like_a_class_or_an_import(self):
        for path, tree in trees():
            above = {part.name for node in tree.body if isinstance(node, ast.ImportFrom) for part in node.names}
            above |= {node.name for node in tree.body if isinstance(node, ast.ClassDef)}
            local = {node.arg for node in ast.walk(tree) if isinstance(node, ast.arg)}
            local |= {
                node.id for node in ast.walk(tree) if isinstance(node, ast.Name) and isinstance(node.ctx, ast.Store)
            }
            self.assertEqual(above & local, set(), path)

    def test_each_name_is_bound_once_at_the_top(self):
        for path, tree in trees():
            names = [node.name for node in tree.body if isinstance(node, (ast.FunctionDef, ast.ClassDef))]
            names += [part.name for node in tree.body if isinstance(node, ast.ImportFrom) for part in node.names]
            names += [node.targets[0].id for node in tree.body if isinstance(node, ast.Assign)]
            self.assertEqual(len(set(names)), len(names), path)

    def test_values_at_the_top_are_plain_and_hold_no_list_or_dict(self):
        for path, tree in trees():
            for node in tree.body:
                if isinstance(node, ast.Assign):
                    place = f"{path.name}:{node.lineno}"
                    for part in ast.walk(node.value):
                        self.assertIsInstance(part, (ast.Constant, ast.Tuple, ast.List, ast.Dict, ast.Load), place)
                    lists = [part for part in ast.walk(node.value) if isinstance(part, (ast.List, ast.Dict))]
                    self.assertLessEqual(len(lists), 1, place)

    def test_names_are_drawn_from_the_file_that_defines_them(self):
        defined = {}
        for path, tree in trees():
            names = {getattr(node, "name", "") for node in tree.body}
            names |= {node.targets[0].id for node in tree.body if isinstance(node, ast.Assign)}
            defined[f"evenlots.{path.stem}"] = names
        for place, node in nodes(ast.ImportFrom):
            for part in node.names:
                self.assertIn(part.name, defined[node.module], place)

    def test_walked_at_once(self):
        spots = [node.iter for place, node in nodes(ast.For, ast.comprehension)]
        spots += [part for place, node in nodes(ast.Call) if called(node) in WALKERS for part in node.args]
        spots = {ast.unparse(spot) for spot in spots}
        for place, node in nodes(ast.Call):
            method = node.func.attr if isinstance(node.func, ast.Attribute) else ""
            if called(node) in WALKED or method in WALKED_METHODS:
                self.assertIn(ast.unparse(node), spots, place)

    def test_sets_are_not_kept(self):
        spots = [node.args[0] for place, node in nodes(ast.Call) if called(node) in ("sorted", "len")]
        spots += [part for place, node in nodes(ast.Compare) for part in [node.left] + node.comparators]
        spots = {ast.unparse(spot) for spot in spots}
        for place, node in nodes(ast.Call):
            if called(node) == "set":
                self.assertIn(ast.unparse(node), spots, place)

    def test_values(self):
        for place, node in nodes(ast.Constant):
            self.assertIn(type(node.value), (int, str, bool, type(None)), place)
            if isinstance(node.value, str):
                self.assertNotIn("%", node.value, place)
        for place, node in nodes(ast.BinOp):
            if isinstance(node.op, ast.Pow):
                self.assertIsInstance(node.right, ast.Constant, place)
                self.assertIn(node.right.value, range(65), place)
        for place, node in nodes(ast.Compare):
            for sign, part in zip(node.ops, node.comparators):
                if isinstance(sign, (ast.Is, ast.IsNot)):
                    self.assertIsInstance(part, ast.Constant, place)
        for place, node in nodes(ast.FormattedValue):
            self.assertIsInstance(node.value, ast.Name, place)
            self.assertIsNone(node.format_spec, place)

    def test_no_two_files_draw_from_one_another(self):
        drawn = {}
        for path, tree in trees():
            drawn[path.stem] = {
                node.module.split(".")[-1] for node in ast.walk(tree) if isinstance(node, ast.ImportFrom)
            }
        while drawn:
            free = [name for name in drawn if not drawn[name] & set(drawn)]
            self.assertTrue(free, drawn)
            for name in free:
                drawn.pop(name)


if __name__ == "__main__":
    unittest.main()
