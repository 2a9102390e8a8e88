"""Holds the package's files against the rules of LANGUAGE.md that can be read off the code."""

import ast
import builtins
import pathlib
import re
import unittest

PACKAGE = pathlib.Path(__file__).resolve().parent.parent / "slidehall"

NODES = """
    Module Expr Constant Import ImportFrom alias FunctionDef ClassDef arguments arg Lambda
    Assign AugAssign If While For Return Break Continue Pass Raise Try ExceptHandler Call keyword
    Name Load Store Attribute Subscript Slice List Tuple Dict Set ListComp comprehension IfExp
    BoolOp And Or BinOp UnaryOp Not USub UAdd Invert Add Sub Mult FloorDiv Mod Pow BitAnd BitOr BitXor LShift RShift
    Compare Eq NotEq Lt LtE Gt GtE Is IsNot In NotIn JoinedStr FormattedValue
""".split()

OWN_NAMES = """
    len range enumerate zip min max sum abs sorted reversed int str bool list tuple dict set frozenset isinstance
    ord repr any all divmod Exception ValueError TypeError KeyError IndexError LookupError ZeroDivisionError
    ArithmeticError OverflowError RuntimeError NotImplementedError AttributeError StopIteration
""".split()

METHODS = """
    append clear copy count endswith extend find get index insert isalnum isalpha isdigit islower isspace isupper
    items join keys ljust lower lstrip partition pop remove replace reverse rfind rjust rpartition rsplit rstrip
    setdefault split splitlines startswith strip update upper values zfill bit_length
""".split()

WORDS = """
    type typing typing_extensions enum Enum IntEnum StrEnum Flag IntFlag Generic Protocol ABC ABCMeta namedtuple
    NamedTuple TypedDict TYPE_CHECKING abstractmethod
""".split()

WALKED = ("zip", "enumerate", "reversed", "range")
TOP = (ast.ImportFrom, ast.FunctionDef, ast.ClassDef, ast.Assign)
PLAIN_TOP = (ast.Constant, ast.Tuple, ast.List, ast.Dict, ast.UnaryOp, ast.Name)
SPECIAL = ("__init__", "__eq__", "__repr__", "__str__", "__len__")


def bound_names(tree):
    for node in ast.walk(tree):
        if isinstance(node, ast.Name) and isinstance(node.ctx, ast.Store):
            yield node.id
        elif isinstance(node, ast.arg):
            yield node.arg
        elif isinstance(node, (ast.FunctionDef, ast.ClassDef)):
            yield node.name
        elif isinstance(node, ast.ExceptHandler) and node.name:
            yield node.name
        elif isinstance(node, ast.alias):
            yield node.asname or node.name


class TestLanguage(unittest.TestCase):
    def setUp(self):
        self.texts = {path.name: path.read_text("utf-8") for path in sorted(PACKAGE.glob("*.py"))}
        self.trees = {name: ast.parse(text) for name, text in self.texts.items()}

    def nodes(self, *kinds):
        for name, tree in self.trees.items():
            for node in ast.walk(tree):
                if isinstance(node, kinds):
                    yield f"{name}:{getattr(node, 'lineno', 0)}", node

    def test_files(self):
        self.assertIn("__init__.py", self.texts)
        for path in PACKAGE.iterdir():
            if path.name != "__pycache__":
                self.assertRegex(path.name, r"\A[a-z0-9_]+\.py\Z")
                self.assertNotIn(path.stem, vars(builtins))

    def test_size_and_signs(self):
        for name, text in self.texts.items():
            rows = text.split("\n")
            self.assertLessEqual(len(rows), 400, name)
            for number, row in enumerate(rows, 1):
                self.assertRegex(row, r"\A[ -~]{0,120}\Z", f"{name}:{number}")
        for where, node in self.nodes(ast.FunctionDef):
            self.assertLessEqual(node.end_lineno - node.lineno + 1, 40, where)

    def test_words_that_stand_nowhere(self):
        for name, text in self.texts.items():
            for word in re.findall(r"[A-Za-z0-9_]+", text):
                self.assertNotIn(word, WORDS, name)
                self.assertIsNone(re.search("dataclass|overload|contextmanager", word), name)

    def test_imports(self):
        modules = {f"slidehall.{name[:-3]}" for name in self.texts}
        for where, node in self.nodes(ast.Import, ast.ImportFrom):
            self.assertIsInstance(node, ast.ImportFrom, where)
            self.assertEqual(node.level, 0, where)
            self.assertIn(node.module, modules, where)
            defined = set(bound_names(self.trees[node.module.split(".")[1] + ".py"]))
            for alias in node.names:
                self.assertIn(alias.name, defined, where)

    def test_no_two_files_draw_from_one_another(self):
        drawn = {name: [node.module.split(".")[1] + ".py" for node in ast.walk(tree)
                        if isinstance(node, ast.ImportFrom)] for name, tree in self.trees.items()}
        self.assertEqual(drawn["__init__.py"], [])
        left = dict(drawn)
        while left:
            free = [name for name in left if not any(other in left for other in left[name])]
            self.assertNotEqual(free, [], left)
            for name in free:
                del left[name]

    def test_top_of_files(self):
        for name, tree in self.trees.items():
            self.assertIsNotNone(ast.get_docstring(tree), name)
            bound = []
            for node in tree.body[1:]:
                self.assertIsInstance(node, TOP, f"{name}:{node.lineno}")
                if isinstance(node, ast.Assign):
                    self.assertIsInstance(node.value, PLAIN_TOP, f"{name}:{node.lineno}")
                bound += [node.targets[0].id] if isinstance(node, ast.Assign) else []
                bound += [node.name] if isinstance(node, (ast.FunctionDef, ast.ClassDef)) else []
            self.assertEqual(len(bound), len(set(bound)), name)

    def test_nodes(self):
        for where, node in self.nodes(ast.AST):
            self.assertIn(node.__class__.__name__, NODES, where)
        for where, node in self.nodes(ast.Constant):
            self.assertNotIsInstance(node.value, (float, bytes, complex), where)
            if isinstance(node.value, str):
                self.assertNotIn("%", node.value, where)
        for where, node in self.nodes(ast.Assign):
            self.assertEqual(len(node.targets), 1, where)
        for where, node in self.nodes(ast.For, ast.While, ast.Try):
            self.assertEqual(getattr(node, "finalbody", []), [], where)
            self.assertTrue(isinstance(node, ast.Try) or node.orelse == [], where)

    def test_bare_expressions_are_calls(self):
        heads = [tree.body[0] for tree in self.trees.values()]
        for where, node in self.nodes(ast.Expr):
            self.assertTrue(node in heads or isinstance(node.value, ast.Call), where)

    def test_functions_and_classes(self):
        for where, node in self.nodes(ast.FunctionDef):
            self.assertEqual(node.decorator_list, [], where)
            self.assertIsNone(node.args.vararg or node.args.kwarg, where)
            self.assertEqual(node.args.kwonlyargs + node.args.posonlyargs, [], where)
        for where, node in self.nodes(ast.ClassDef):
            self.assertEqual(node.decorator_list + node.keywords, [], where)
            self.assertLessEqual(len(node.bases), 1, where)
            for part in node.body:
                self.assertIsInstance(part, (ast.FunctionDef, ast.Pass), where)

    def test_names(self):
        for name, tree in self.trees.items():
            bound = set(bound_names(tree))
            for word in bound:
                self.assertTrue(word in SPECIAL or re.fullmatch("[A-Za-z][A-Za-z0-9_]*", word), (name, word))
                self.assertNotIn(word, vars(builtins), name)
            used = {node.id for node in ast.walk(tree) if isinstance(node, ast.Name)}
            for word in used - bound:
                self.assertIn(word, OWN_NAMES, name)
            imported = {alias.name for node in ast.walk(tree) if isinstance(node, ast.ImportFrom)
                        for alias in node.names}
            local = {word for part in tree.body if isinstance(part, (ast.FunctionDef, ast.ClassDef))
                     for below in part.body for word in bound_names(below)}
            local |= {arg.arg for node in ast.walk(tree) if isinstance(node, ast.arguments) for arg in node.args}
            classes = {part.name for part in tree.body if isinstance(part, ast.ClassDef)}
            self.assertEqual(local & (imported | classes), set(), name)

    def test_methods(self):
        own = {part.name for _, node in self.nodes(ast.ClassDef) for part in node.body
               if isinstance(part, ast.FunctionDef)}
        for where, node in self.nodes(ast.Call):
            if isinstance(node.func, ast.Attribute):
                self.assertIn(node.func.attr, own.union(METHODS), where)

    def test_is_beside_none_true_false(self):
        for where, node in self.nodes(ast.Compare):
            sides = [node.left] + node.comparators
            for number, sign in enumerate(node.ops):
                if isinstance(sign, (ast.Is, ast.IsNot)):
                    plain = [side for side in sides[number:number + 2] if isinstance(side, ast.Constant)]
                    self.assertTrue(any(side.value in (None, True, False) for side in plain), where)

    def test_comprehensions(self):
        for where, node in self.nodes(ast.ListComp):
            self.assertEqual(len(node.generators), 1, where)
            self.assertLessEqual(len(node.generators[0].ifs), 1, where)

    def test_nothing_walked_is_kept(self):
        for where, node in self.nodes(ast.Assign, ast.Return):
            if isinstance(node.value, ast.Call) and isinstance(node.value.func, ast.Name):
                self.assertNotIn(node.value.func.id, WALKED + ("set", "frozenset"), where)
            if isinstance(node.value, ast.Call) and isinstance(node.value.func, ast.Attribute):
                self.assertNotIn(node.value.func.attr, ("items", "keys", "values"), where)


if __name__ == "__main__":
    unittest.main()
