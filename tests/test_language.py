"""The package keeps to the small part of Python that it is written in, as far as a look at each file tells."""

import ast
import builtins
import pathlib
import re
import unittest

PACKAGE = pathlib.Path(__file__).resolve().parent.parent / "rankyard"
NODES = set("""
Module FunctionDef ClassDef arguments arg Return Assign AugAssign For While If Raise Try ExceptHandler Expr Pass Break
Continue ImportFrom alias BoolOp BinOp UnaryOp Lambda IfExp Dict Set List Tuple ListComp comprehension Compare Call
keyword JoinedStr FormattedValue Constant Attribute Subscript Name Slice Load Store And Or Add Sub Mult Mod Pow
LShift RShift BitOr BitXor BitAnd FloorDiv Invert Not UAdd USub Eq NotEq Lt LtE Gt GtE Is IsNot In NotIn
""".split())
OWN_NAMES = set("""
len range enumerate zip min max sum abs sorted reversed int str bool list tuple dict set frozenset isinstance ord repr
any all divmod Exception ValueError TypeError KeyError IndexError LookupError ZeroDivisionError ArithmeticError
OverflowError RuntimeError NotImplementedError AttributeError StopIteration
""".split())
METHODS = set("""
append clear copy count endswith extend find get index insert isalnum isalpha isdigit islower isspace isupper items join
keys ljust lower lstrip partition pop remove replace reverse rfind rjust rpartition rsplit rstrip setdefault split
splitlines startswith strip update upper values zfill bit_length
""".split())
WORDS = re.compile(r"\b(type|typing|typing_extensions|enum|Enum|IntEnum|StrEnum|Flag|IntFlag|Generic|Protocol|ABC|ABCMeta"
                   r"|namedtuple|NamedTuple|TypedDict|TYPE_CHECKING|abstractmethod)\b|dataclass|overload|contextmanager")
# Where keywords stand at all, in the program as it is; own functions are called without.
KEYWORDS = {
    "sorted": {"key", "reverse"}, "min": {"key", "default"}, "max": {"key", "default"}, "sum": {"start"},
    "enumerate": {"start"}, "zip": {"strict"},
}
WALKED = ("zip", "enumerate", "reversed", "range")
TAKERS = ("list", "tuple", "dict", "sorted", "sum", "any", "all", "enumerate", "zip")
NOWHERE = set("register mro elements open input version_info with_traceback add_note format format_map".split())


def bound_names(tree):
    for node in ast.walk(tree):
        if isinstance(node, ast.Name) and isinstance(node.ctx, ast.Store):
            yield node.id
        elif isinstance(node, ast.arg):
            yield node.arg
        elif isinstance(node, (ast.FunctionDef, ast.ClassDef)):
            yield node.name


def top_names(tree):
    names = [node.name for node in tree.body if isinstance(node, (ast.FunctionDef, ast.ClassDef))]
    return names + [node.targets[0].id for node in tree.body if isinstance(node, ast.Assign)]


def local_names(tree):
    """What parameters, loops and assignments within functions bind."""
    for function in functions(tree):
        for node in ast.walk(function):
            if isinstance(node, ast.Name) and isinstance(node.ctx, ast.Store):
                yield node.id
            elif isinstance(node, ast.arg):
                yield node.arg


def called_name(node):
    return node.func.id if isinstance(node, ast.Call) and isinstance(node.func, ast.Name) else None


def functions(tree):
    return [node for node in ast.walk(tree) if isinstance(node, ast.FunctionDef)]


class LanguageTest(unittest.TestCase):
    def setUp(self):
        self.texts = {path.stem: path.read_text("utf-8") for path in sorted(PACKAGE.glob("*.py"))}
        self.trees = {name: ast.parse(text) for name, text in self.texts.items()}

    def test_files(self):
        for path in PACKAGE.iterdir():
            if path.name != "__pycache__":
                self.assertRegex(path.name, r"\A(__init__|[a-z][a-z0-9_]*)\.py\Z")
        self.assertIn("__init__", self.texts)

    def test_signs_words_and_sizes(self):
        for name, text in self.texts.items():
            self.assertRegex(text, r"\A[ -~\n]*\Z", name)
            self.assertIsNone(WORDS.search(text), name)
            rows = text.split("\n")
            self.assertLessEqual(len(rows), 400, name)
            self.assertLessEqual(max(len(row) for row in rows), 120, name)

    def test_statements_and_expressions(self):
        for name, tree in self.trees.items():
            for node in ast.walk(tree):
                kind = node.__class__.__name__
                self.assertIn(kind, NODES, (name, getattr(node, "lineno", 0)))
                if isinstance(node, ast.Constant):
                    self.assertIn(node.value.__class__, (int, str, bool, None.__class__), name)
                if isinstance(node, ast.Assign):
                    self.assertEqual(len(node.targets), 1, (name, node.lineno))
                if isinstance(node, (ast.For, ast.While)):
                    self.assertEqual(node.orelse, [], (name, node.lineno))
                if isinstance(node, ast.ListComp):
                    self.assertEqual(len(node.generators), 1, (name, node.lineno))
                    self.assertLessEqual(len(node.generators[0].ifs), 1, (name, node.lineno))

    def test_functions_and_classes(self):
        for name, tree in self.trees.items():
            for node in functions(tree):
                self.assertLessEqual(node.end_lineno - node.lineno + 1, 40, (name, node.name))
                self.assertEqual(node.decorator_list, [], (name, node.name))
                self.assertIsNone(node.args.vararg or node.args.kwarg or node.returns, (name, node.name))
                self.assertEqual(node.args.kwonlyargs + node.args.posonlyargs, [], (name, node.name))
            for node in [node for node in ast.walk(tree) if isinstance(node, ast.ClassDef)]:
                self.assertLessEqual(len(node.bases), 1, (name, node.name))
                self.assertTrue(all(isinstance(part, (ast.FunctionDef, ast.Pass)) for part in node.body))

    def test_names(self):
        for name, tree in self.trees.items():
            bound = set(bound_names(tree))
            for word in bound:
                self.assertRegex(word, r"\A([A-Za-z][A-Za-z0-9_]*|__(init|eq|repr|str|len)__)\Z", name)
                self.assertFalse(hasattr(builtins, word), (name, word))
            for node in ast.walk(tree):
                if isinstance(node, ast.Name):
                    self.assertNotIn(node.id, NOWHERE, (name, node.lineno))
                    if hasattr(builtins, node.id):
                        self.assertIn(node.id, OWN_NAMES, (name, node.lineno))

    def test_no_local_is_called_like_a_class_or_an_import(self):
        for name, tree in self.trees.items():
            taken = {node.name for node in ast.walk(tree) if isinstance(node, (ast.alias, ast.ClassDef))}
            self.assertEqual(sorted(taken & set(local_names(tree))), [], name)

    def test_is_stands_beside_none_and_truths(self):
        for name, tree in self.trees.items():
            for node in ast.walk(tree):
                if isinstance(node, ast.Compare) and any(isinstance(op, (ast.Is, ast.IsNot)) for op in node.ops):
                    sides = [side for side in [node.left] + node.comparators if isinstance(side, ast.Constant)]
                    self.assertTrue(any(side.value in (None, True, False) for side in sides), (name, node.lineno))

    def test_keywords(self):
        for name, tree in self.trees.items():
            for node in ast.walk(tree):
                if isinstance(node, ast.Call) and node.keywords:
                    used = {keyword.arg for keyword in node.keywords}
                    self.assertLessEqual(used, KEYWORDS.get(called_name(node), set()), (name, node.lineno))

    def test_walked_at_once(self):
        for name, tree in self.trees.items():
            walked = []
            for node in ast.walk(tree):
                if isinstance(node, (ast.For, ast.comprehension)):
                    walked.append(node.iter)
                elif called_name(node) in TAKERS:
                    walked.extend(node.args if called_name(node) == "zip" else node.args[:1])
            for node in ast.walk(tree):
                if called_name(node) in WALKED or isinstance(node, ast.Call) and isinstance(
                        node.func, ast.Attribute) and node.func.attr in ("items", "keys", "values"):
                    self.assertIn(node, walked, (name, node.lineno))

    def test_no_sets(self):
        for name, tree in self.trees.items():
            for node in ast.walk(tree):
                self.assertNotIsInstance(node, ast.Set, name)
                self.assertNotIn(called_name(node), ("set", "frozenset"), name)

    def test_methods(self):
        own = {node.name for tree in self.trees.values() for node in functions(tree)}
        for name, tree in self.trees.items():
            for node in ast.walk(tree):
                if isinstance(node, ast.Attribute):
                    self.assertNotIn(node.attr, NOWHERE, (name, node.lineno))
                if isinstance(node, ast.Call) and isinstance(node.func, ast.Attribute):
                    self.assertIn(node.func.attr, METHODS | own, (name, node.lineno))

    def test_imports(self):
        draws = {}
        for name, tree in self.trees.items():
            rows = [node for node in ast.walk(tree) if isinstance(node, ast.ImportFrom)]
            for node in rows:
                self.assertIn(node, tree.body, name)
                self.assertEqual(node.level, 0, name)
                self.assertRegex(node.module, r"\Arankyard\.[a-z_0-9]+\Z", name)
                for part in node.names:
                    self.assertIn(part.name, top_names(self.trees[node.module.split(".")[1]]), name)
            draws[name] = {node.module.split(".")[1] for node in rows}
        while draws:
            ready = [name for name in draws if not draws[name] & set(draws)]
            self.assertTrue(ready, f"these draw from one another: {sorted(draws)}")
            draws = {name: drawn for name, drawn in draws.items() if name not in ready}


if __name__ == "__main__":
    unittest.main()
