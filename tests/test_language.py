"""The package keeps to the small part of Python that it is written in."""

import ast
import pathlib
import re
import unittest

PACKAGE = pathlib.Path(__file__).resolve().parent.parent / "chestwatches"
FILES = sorted(PACKAGE.glob("*.py"))

STATEMENTS = (
    ast.FunctionDef, ast.ClassDef, ast.Assign, ast.AugAssign, ast.If, ast.While, ast.For, ast.Return, ast.Break,
    ast.Continue, ast.Pass, ast.Raise, ast.Try, ast.Expr, ast.ImportFrom,
)
EXPRESSIONS = (
    ast.Constant, ast.List, ast.Tuple, ast.Dict, ast.BinOp, ast.UnaryOp, ast.BoolOp, ast.Compare, ast.IfExp, ast.Call,
    ast.Attribute, ast.Subscript, ast.Slice, ast.ListComp, ast.JoinedStr, ast.FormattedValue, ast.Name, ast.Lambda,
)
OWN_NAMES = (
    "len range enumerate zip min max sum abs sorted reversed int str bool list tuple dict set frozenset isinstance ord "
    "repr any all divmod"
).split()
METHODS = (
    "append clear copy count endswith extend find get index insert isalnum isalpha isdigit islower isspace isupper "
    "items join keys ljust lower lstrip partition pop remove replace reverse rfind rjust rpartition rsplit rstrip "
    "setdefault split splitlines startswith strip update upper values zfill bit_length"
).split()
FORBIDDEN_WORDS = re.compile(
    r"\b(type|typing|typing_extensions|enum|Enum|IntEnum|StrEnum|Flag|IntFlag|Generic|Protocol|ABC|ABCMeta|namedtuple"
    r"|NamedTuple|TypedDict|TYPE_CHECKING|abstractmethod)\b|dataclass|overload|contextmanager"
)


def bound_names(tree):
    """Every name that the file itself gives a meaning."""
    names = []
    for node in ast.walk(tree):
        if isinstance(node, (ast.FunctionDef, ast.ClassDef)):
            names.append(node.name)
        elif isinstance(node, ast.arg):
            names.append(node.arg)
        elif isinstance(node, ast.alias):
            names.append(node.name)
        elif isinstance(node, ast.Name) and isinstance(node.ctx, ast.Store):
            names.append(node.id)
    return names


class Language(unittest.TestCase):
    def each(self):
        for path in FILES:
            text = path.read_text(encoding="utf-8")
            with self.subTest(file=path.name):
                yield path, text, ast.parse(text)

    def test_there_are_files_and_nothing_else(self):
        self.assertIn("party.py", [path.name for path in FILES])
        found = [path.name for path in PACKAGE.iterdir() if path.name != "__pycache__"]
        self.assertEqual(sorted(found), [path.name for path in FILES])

    def test_size_and_signs(self):
        for path, text, tree in self.each():
            self.assertTrue(re.fullmatch(r"[ -~\n]*", text))
            self.assertLessEqual(len(text.split("\n")), 400)
            self.assertLessEqual(max(len(row) for row in text.split("\n")), 120)
            for node in ast.walk(tree):
                if isinstance(node, ast.FunctionDef):
                    self.assertLessEqual(node.end_lineno - node.lineno + 1, 40, node.name)
            self.assertIsNone(FORBIDDEN_WORDS.search(text))

    def test_statements_and_expressions(self):
        for path, text, tree in self.each():
            for node in ast.walk(tree):
                if isinstance(node, ast.stmt):
                    self.assertIsInstance(node, STATEMENTS, ast.dump(node))
                if isinstance(node, ast.expr):
                    self.assertIsInstance(node, EXPRESSIONS, ast.dump(node))
                if isinstance(node, ast.Assign):
                    self.assertEqual(len(node.targets), 1)
                    self.assertNotIsInstance(node.targets[0], (ast.Tuple, ast.List))
                if isinstance(node, ast.BinOp):
                    self.assertNotIsInstance(node.op, (ast.Div, ast.MatMult))
                if isinstance(node, ast.Constant):
                    self.assertIn(type(node.value), (int, str, bool, type(None)))
                if isinstance(node, (ast.For, ast.While)):
                    self.assertEqual(node.orelse, [])
                if isinstance(node, ast.ListComp):
                    self.assertEqual(len(node.generators), 1)
                    self.assertLessEqual(len(node.generators[0].ifs), 1)

    def test_a_row_by_itself_is_a_call_or_the_files_docstring(self):
        for path, text, tree in self.each():
            for node in ast.walk(tree):
                if isinstance(node, ast.Expr) and node is not tree.body[0]:
                    self.assertIsInstance(node.value, ast.Call, ast.dump(node))

    def test_functions_and_classes(self):
        for path, text, tree in self.each():
            for node in ast.walk(tree):
                if isinstance(node, (ast.FunctionDef, ast.ClassDef)):
                    self.assertEqual(node.decorator_list, [])
                if isinstance(node, ast.FunctionDef):
                    plain = node.args
                    self.assertEqual((plain.vararg, plain.kwarg, plain.kwonlyargs, plain.posonlyargs),
                                     (None, None, [], []))
                if isinstance(node, ast.ClassDef):
                    self.assertTrue(all(isinstance(part, ast.FunctionDef) for part in node.body))

    def test_imports(self):
        drawn = {}
        for path, text, tree in self.each():
            names = []
            for node in ast.walk(tree):
                if isinstance(node, ast.ImportFrom):
                    self.assertIn(node, tree.body)
                    self.assertTrue(node.module.startswith("chestwatches."))
                    self.assertTrue(all(alias.asname is None and alias.name != "*" for alias in node.names))
                    names.append(node.module.split(".")[1])
            drawn[path.stem] = names
        done = []
        while len(done) < len(drawn):
            ready = [name for name in drawn if name not in done and all(other in done for other in drawn[name])]
            self.assertNotEqual(ready, [], "files draw from one another")
            done.extend(ready)

    def test_names(self):
        for path, text, tree in self.each():
            bound = bound_names(tree)
            for name in bound:
                if name != "__init__":
                    self.assertRegex(name, r"\A[A-Za-z][A-Za-z0-9_]*\Z")
                    self.assertNotIn(name, dir(__builtins__) if not isinstance(__builtins__, dict) else __builtins__)
            for node in ast.walk(tree):
                if isinstance(node, ast.Name) and isinstance(node.ctx, ast.Load) and node.id not in bound:
                    self.assertIn(node.id, OWN_NAMES)
                if isinstance(node, ast.Call) and isinstance(node.func, ast.Attribute):
                    self.assertIn(node.func.attr, METHODS)

    def test_ranges_and_their_like_are_walked_at_once(self):
        walkers = ("list", "tuple", "dict", "sorted", "sum", "any", "all", "enumerate", "zip", "min", "max")
        for path, text, tree in self.each():
            walked = [node.iter for node in ast.walk(tree) if isinstance(node, (ast.For, ast.comprehension))]
            walked += [node.args[0] for node in ast.walk(tree)
                       if isinstance(node, ast.Call) and isinstance(node.func, ast.Name) and node.func.id in walkers]
            for node in ast.walk(tree):
                if isinstance(node, ast.Call) and isinstance(node.func, ast.Name):
                    if node.func.id in ("zip", "enumerate", "reversed", "range"):
                        self.assertIn(node, walked)
                if isinstance(node, ast.Call) and isinstance(node.func, ast.Attribute):
                    if node.func.attr in ("items", "keys", "values"):
                        self.assertIn(node, walked)

    def test_a_list_or_dict_of_the_top_holds_none_and_is_not_handed_on(self):
        for path, text, tree in self.each():
            kept = [node for node in tree.body if isinstance(node, ast.Assign)]
            held = [node.targets[0].id for node in kept if isinstance(node.value, (ast.List, ast.Dict))]
            for node in kept:
                inner = [part for part in ast.walk(node.value) if isinstance(part, (ast.List, ast.Dict))]
                self.assertLessEqual(len(inner), 1)
            read = []
            for node in ast.walk(tree):
                if isinstance(node, ast.Subscript) and isinstance(node.ctx, ast.Load):
                    read.append(node.value)
                if isinstance(node, ast.Compare):
                    read.extend(node.comparators)
            for node in ast.walk(tree):
                if isinstance(node, ast.Name) and isinstance(node.ctx, ast.Load) and node.id in held:
                    self.assertIn(node, read, node.id)

    def test_no_local_is_called_like_a_class_or_an_import(self):
        for path, text, tree in self.each():
            top = [alias.name for node in tree.body if isinstance(node, ast.ImportFrom) for alias in node.names]
            top += [node.name for node in tree.body if isinstance(node, ast.ClassDef)]
            for function in ast.walk(tree):
                if isinstance(function, ast.FunctionDef):
                    inner = [node.arg for node in ast.walk(function) if isinstance(node, ast.arg)]
                    inner += [node.id for node in ast.walk(function)
                              if isinstance(node, ast.Name) and isinstance(node.ctx, ast.Store)]
                    self.assertEqual([name for name in inner if name in top], [])


if __name__ == "__main__":
    unittest.main()
