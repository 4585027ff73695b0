"""The package keeps to rules of LANGUAGE.md: parts of L1 to L8, L10, L12, L14 to L18, L20, L21, L24 to L26."""

import ast
import builtins
import pathlib
import re
import unittest

PACKAGE = pathlib.Path(__file__).resolve().parent.parent / "wholeowners"
NODES = set("""
Module FunctionDef ClassDef Return Assign AugAssign For While If Raise Try ImportFrom Expr Pass Break Continue
ExceptHandler BoolOp BinOp UnaryOp Lambda IfExp Dict Set ListComp Compare Call JoinedStr FormattedValue Constant
Attribute Subscript Name List Tuple Slice Load Store And Or Add Sub Mult FloorDiv Mod Pow LShift RShift BitOr BitXor
BitAnd Invert Not UAdd USub Eq NotEq Lt LtE Gt GtE Is IsNot In NotIn comprehension arguments arg keyword alias
""".split())
PYTHONS_NAMES = set("""
len range enumerate zip min max sum abs sorted reversed int str bool list tuple dict set frozenset isinstance ord repr
any all divmod Exception ValueError TypeError KeyError IndexError LookupError ZeroDivisionError ArithmeticError
OverflowError RuntimeError NotImplementedError AttributeError StopIteration
""".split())
METHODS = set("""
append clear copy count endswith extend find get index insert isalnum isalpha isdigit islower isspace isupper items
join keys ljust lower lstrip partition pop remove replace reverse rfind rjust rpartition rsplit rstrip setdefault split
splitlines startswith strip update upper values zfill bit_length
""".split())
SPECIAL = {"__init__", "__eq__", "__repr__", "__str__", "__len__"}
WORDS = re.compile(
    r"\b(type|typing|typing_extensions|enum|Enum|IntEnum|StrEnum|Flag|IntFlag|Generic|Protocol|ABC|ABCMeta|namedtuple"
    r"|NamedTuple|TypedDict|TYPE_CHECKING|abstractmethod)\b|dataclass|overload|contextmanager"
)


def files():
    return sorted(path for path in PACKAGE.rglob("*") if path.is_file() and "__pycache__" not in path.parts)


def nodes_of(kind):
    return [node for path in files() for node in ast.walk(ast.parse(path.read_text())) if isinstance(node, kind)]


def own_methods():
    return {item.name for node in nodes_of(ast.ClassDef) for item in node.body if isinstance(item, ast.FunctionDef)}


def own_values():
    return {node.attr for node in nodes_of(ast.Attribute) if isinstance(node.ctx, ast.Store)}


class Language(unittest.TestCase):

    def test_files(self):
        self.assertIn(PACKAGE / "__init__.py", files())
        for path in files():
            self.assertRegex(path.name, r"\A(__init__|__main__|[a-z][a-z0-9_]*)\.py\Z")
            self.assertNotIn(path.stem, dir(builtins))

    def test_signs_words_and_sizes(self):
        for path in files():
            text = path.read_text(encoding="utf-8")
            self.assertRegex(text, r"\A[ -~\n]*\Z", path)
            self.assertIsNone(WORDS.search(text), path)
            self.assertLessEqual(text.count("\n"), 400, path)
            self.assertLessEqual(max(len(line) for line in text.split("\n")), 120, path)
        for node in nodes_of(ast.FunctionDef):
            self.assertLessEqual(node.end_lineno - node.lineno + 1, 40, node.name)

    def test_nothing_but_the_part_of_python(self):
        for node in nodes_of(ast.AST):
            self.assertIn(type(node).__name__, NODES)
            if isinstance(node, ast.Constant):
                self.assertIn(type(node.value), (int, str, bool, type(None)))
            if isinstance(node, ast.Assign):
                self.assertEqual(len(node.targets), 1)
                self.assertNotIsInstance(node.targets[0], (ast.Tuple, ast.List))
            if isinstance(node, (ast.For, ast.While)):
                self.assertEqual(node.orelse, [])
            if isinstance(node, ast.ListComp):
                self.assertEqual(len(node.generators), 1)
            if isinstance(node, ast.arguments):
                self.assertEqual((node.vararg, node.kwarg, node.kwonlyargs, node.posonlyargs), (None, None, [], []))
            if isinstance(node, (ast.FunctionDef, ast.ClassDef)):
                self.assertEqual(node.decorator_list, [])

    def test_imports(self):
        for path in files():
            for node in ast.walk(ast.parse(path.read_text())):
                if isinstance(node, ast.ImportFrom):
                    self.assertEqual(node.level, 0)
                    self.assertRegex(node.module, r"\Awholeowners\.[a-z_]+\Z")
                    self.check_source(node)

    def check_source(self, node):
        tree = ast.parse((PACKAGE / (node.module.split(".")[1] + ".py")).read_text())
        defined = {item.name for item in tree.body if isinstance(item, (ast.FunctionDef, ast.ClassDef))}
        defined |= {item.targets[0].id for item in tree.body if isinstance(item, ast.Assign)}
        for alias in node.names:
            self.assertIn(alias.name, defined)
            self.assertIsNone(alias.asname)

    def test_names(self):
        bound = {node.id for node in nodes_of(ast.Name) if isinstance(node.ctx, ast.Store)}
        bound |= {node.arg for node in nodes_of(ast.arg)}
        bound |= {node.name for node in nodes_of((ast.FunctionDef, ast.ClassDef))} - own_methods()
        for name in bound:
            self.assertRegex(name, r"\A[A-Za-z][A-Za-z0-9_]*\Z")
            self.assertNotIn(name, dir(builtins))
        for node in nodes_of(ast.Name):
            if node.id in dir(builtins):
                self.assertIn(node.id, PYTHONS_NAMES)

    def test_tops_of_files(self):
        for path in files():
            for item in ast.parse(path.read_text()).body:
                self.assertIsInstance(item, (ast.Expr, ast.ImportFrom, ast.FunctionDef, ast.ClassDef, ast.Assign))
                if isinstance(item, ast.Expr):
                    self.assertIsInstance(item.value, ast.Constant)
                if isinstance(item, ast.Assign):
                    self.assertIn(type(ast.literal_eval(item.value)), (int, str, tuple))

    def test_no_local_is_called_like_an_import_or_a_class(self):
        for path in files():
            tree = ast.parse(path.read_text())
            taken = [alias.name for node in tree.body if isinstance(node, ast.ImportFrom) for alias in node.names]
            taken += [node.name for node in tree.body if isinstance(node, ast.ClassDef)]
            names = [node for node in ast.walk(tree) if isinstance(node, ast.Name)]
            bound = {node.id for node in names if isinstance(node.ctx, ast.Store)}
            bound |= {node.arg for node in ast.walk(tree) if isinstance(node, ast.arg)}
            self.assertEqual(bound & set(taken), set(), path)

    def test_no_two_files_draw_from_one_another(self):
        draws = {}
        for path in files():
            nodes = ast.walk(ast.parse(path.read_text()))
            draws[path.stem] = [node.module.split(".")[1] for node in nodes if isinstance(node, ast.ImportFrom)]
        while draws:
            free = [name for name in draws if not any(other in draws for other in draws[name])]
            self.assertNotEqual(free, [], draws)
            draws = {name: draws[name] for name in draws if name not in free}

    def test_is_annotations_and_sets(self):
        for node in nodes_of(ast.Compare):
            for sign, value in zip(node.ops, node.comparators):
                if isinstance(sign, (ast.Is, ast.IsNot)):
                    self.assertIn(ast.unparse(value), ("None", "True", "False"))
        for node in nodes_of(ast.FunctionDef):
            self.assertIsNone(node.returns)
            self.assertEqual([arg.annotation for arg in node.args.args if arg.annotation is not None], [])
        for node in nodes_of((ast.Assign, ast.For, ast.comprehension, ast.Return)):
            value = node.iter if isinstance(node, (ast.For, ast.comprehension)) else node.value
            self.assertNotIsInstance(value, ast.Set)
            self.assertFalse(isinstance(value, ast.Call) and ast.unparse(value.func) in ("set", "frozenset"))

    def test_methods_and_values(self):
        self.assertEqual(own_methods() & own_values(), set())
        for name in own_methods() - SPECIAL | own_values():
            self.assertFalse(name.startswith("_"), name)
            for kind in (str, int, list, dict, set, tuple, bytes, frozenset):
                self.assertFalse(hasattr(kind, name), name)
        for node in nodes_of(ast.Attribute):
            self.assertIn(node.attr, METHODS | SPECIAL | own_methods() | own_values())


if __name__ == "__main__":
    unittest.main()
