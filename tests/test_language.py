"""The package's files keep to the part of Python that they may use, as far as a walk over them can see."""

import ast
import builtins
import pathlib
import re
import unittest

PACKAGE = pathlib.Path(__file__).resolve().parent.parent / "slothouse"
FILES = sorted(path for path in PACKAGE.rglob("*") if path.is_file() and "__pycache__" not in path.parts)

STATEMENTS = (
    ast.Assign, ast.AugAssign, ast.If, ast.While, ast.For, ast.Return, ast.Break, ast.Continue, ast.Pass, ast.Raise,
    ast.Try, ast.Expr, ast.FunctionDef, ast.ClassDef, ast.ImportFrom,
)
EXPRESSIONS = (
    ast.Constant, ast.List, ast.Tuple, ast.Dict, ast.BinOp, ast.UnaryOp, ast.BoolOp, ast.Compare, ast.IfExp, ast.Call,
    ast.Attribute, ast.Subscript, ast.Slice, ast.ListComp, ast.JoinedStr, ast.FormattedValue, ast.Name, ast.Lambda,
)
OWN_NAMES = (
    "len range enumerate zip min max sum abs sorted reversed int str bool list tuple dict set frozenset isinstance ord"
    " repr any all divmod Exception ValueError TypeError KeyError IndexError LookupError ZeroDivisionError"
    " ArithmeticError OverflowError RuntimeError NotImplementedError AttributeError StopIteration"
).split()
METHODS = (
    "append clear copy count endswith extend find get index insert isalnum isalpha isdigit islower isspace isupper items"
    " join keys ljust lower lstrip partition pop remove replace reverse rfind rjust rpartition rsplit rstrip setdefault"
    " split splitlines startswith strip update upper values zfill bit_length"
).split()
NOT_USED = (
    "register mro elements open input version_info with_traceback add_note attrgetter breakpoint compile delattr dir eval"
    " exec getattr globals hasattr id locals setattr super vars sys os"
).split()
WORDS = (
    "type typing typing_extensions enum Enum IntEnum StrEnum Flag IntFlag Generic Protocol ABC ABCMeta namedtuple"
    " NamedTuple TypedDict TYPE_CHECKING abstractmethod"
).split()


def bound_names(tree):
    for node in ast.walk(tree):
        if isinstance(node, (ast.FunctionDef, ast.ClassDef)):
            yield node.name
        if isinstance(node, ast.arg):
            yield node.arg
        if isinstance(node, ast.Name) and isinstance(node.ctx, ast.Store):
            yield node.id
        if isinstance(node, ast.Attribute):
            yield node.attr


class Language(unittest.TestCase):
    def each(self):
        for path in FILES:
            text = path.read_text(encoding="utf-8")
            with self.subTest(path.name):
                yield path, text, ast.parse(text)

    def test_files(self):
        self.assertIn("__init__.py", [path.name for path in FILES])
        for path in FILES:
            self.assertRegex(path.name, r"^(__init__|[a-z][a-z0-9_]*)\.py$")
            self.assertNotIn(path.stem, dir(builtins))

    def test_signs_and_size(self):
        for path, text, tree in self.each():
            rows = text.split("\n")
            self.assertLessEqual(len(rows), 400)
            self.assertLessEqual(max(len(row) for row in rows), 120)
            self.assertRegex(text, r"\A[ -~\n]*\Z")
            for node in ast.walk(tree):
                if isinstance(node, ast.FunctionDef):
                    self.assertLessEqual(node.end_lineno - node.lineno + 1, 40, node.name)

    def test_words(self):
        for path, text, tree in self.each():
            found = [word for word in WORDS if re.search(rf"\b{word}\b", text)]
            self.assertEqual(found + re.findall("dataclass|overload|contextmanager", text), [])

    def test_imports(self):
        for path, text, tree in self.each():
            for node in ast.walk(tree):
                if isinstance(node, ast.ImportFrom):
                    self.assertEqual(node.level, 0)
                    self.assertTrue(node.module.startswith("slothouse."), node.module)
                    self.assertNotIn("*", [alias.name for alias in node.names])
                    self.assertIn(node, tree.body)

    def test_each_name_comes_from_the_file_that_defines_it(self):
        defined = {}
        for path, text, tree in self.each():
            defined[f"slothouse.{path.stem}"] = [
                node.targets[0].id if isinstance(node, ast.Assign) else node.name
                for node in tree.body if isinstance(node, (ast.FunctionDef, ast.ClassDef, ast.Assign))
            ]
        for path, text, tree in self.each():
            for node in tree.body:
                if isinstance(node, ast.ImportFrom):
                    self.assertEqual([alias.name for alias in node.names if alias.name not in defined[node.module]], [])
                    self.assertEqual([alias.name for alias in node.names if alias.asname is not None], [])

    def test_no_two_files_draw_from_one_another(self):
        drawn = {}
        for path, text, tree in self.each():
            drawn[f"slothouse.{path.stem}"] = {node.module for node in tree.body if isinstance(node, ast.ImportFrom)}
        done = set()
        while len(done) < len(drawn):
            free = [name for name in drawn if name not in done and drawn[name] <= done]
            self.assertNotEqual(free, [])
            done.update(free)

    def test_what_is_drawn_is_used(self):
        for path, text, tree in self.each():
            drawn = [alias.name for node in tree.body if isinstance(node, ast.ImportFrom) for alias in node.names]
            used = {node.id for node in ast.walk(tree) if isinstance(node, ast.Name)}
            self.assertEqual([name for name in drawn if name not in used], [])

    def test_locals_are_not_called_like_what_stands_at_the_top(self):
        for path, text, tree in self.each():
            top = [alias.name for node in tree.body if isinstance(node, ast.ImportFrom) for alias in node.names]
            top += [node.name for node in tree.body if isinstance(node, (ast.FunctionDef, ast.ClassDef))]
            for function in tree.body:
                if isinstance(function, ast.FunctionDef):
                    inner = {node.arg for node in ast.walk(function) if isinstance(node, ast.arg)}
                    inner |= {
                        node.id for node in ast.walk(function)
                        if isinstance(node, ast.Name) and isinstance(node.ctx, ast.Store)
                    }
                    self.assertEqual(sorted(inner & set(top)), [])

    def test_statements_and_expressions(self):
        for path, text, tree in self.each():
            for node in ast.walk(tree):
                if isinstance(node, ast.stmt):
                    self.assertIsInstance(node, STATEMENTS)
                if isinstance(node, ast.expr):
                    self.assertIsInstance(node, EXPRESSIONS)
                if isinstance(node, ast.Constant):
                    self.assertIn(type(node.value), (int, str, bool, type(None)))
                if isinstance(node, ast.BinOp):
                    self.assertNotIsInstance(node.op, ast.Div)
                if isinstance(node, ast.Assign):
                    self.assertEqual(len(node.targets), 1)
                if isinstance(node, (ast.For, ast.While)):
                    self.assertEqual(node.orelse, [])
                if isinstance(node, ast.ListComp):
                    self.assertEqual(len(node.generators), 1)
                    self.assertLessEqual(len(node.generators[0].ifs), 1)
                if isinstance(node, (ast.FunctionDef, ast.ClassDef)):
                    self.assertEqual(node.decorator_list, [])

    def test_the_top_of_a_file(self):
        for path, text, tree in self.each():
            names = []
            for node in tree.body:
                self.assertIsInstance(node, (ast.Expr, ast.ImportFrom, ast.FunctionDef, ast.ClassDef, ast.Assign))
                if isinstance(node, ast.Assign):
                    ast.literal_eval(node.value)
                    names.append(node.targets[0].id)
                if isinstance(node, (ast.FunctionDef, ast.ClassDef)):
                    names.append(node.name)
                if isinstance(node, ast.ImportFrom):
                    names.extend(alias.name for alias in node.names)
            self.assertEqual(len(names), len(set(names)))

    def test_names(self):
        for path, text, tree in self.each():
            own = set()
            for node in ast.walk(tree):
                if isinstance(node, ast.Name) and hasattr(builtins, node.id):
                    own.add(node.id)
            self.assertEqual(sorted(own - set(OWN_NAMES)), [])
            for name in bound_names(tree):
                self.assertNotIn(name, NOT_USED)
                self.assertTrue(name in ("__init__",) or re.fullmatch("[A-Za-z][A-Za-z0-9_]*", name), name)
            locals_and_parameters = [node.arg for node in ast.walk(tree) if isinstance(node, ast.arg)] + [
                node.id for node in ast.walk(tree) if isinstance(node, ast.Name) and isinstance(node.ctx, ast.Store)
            ]
            self.assertEqual([name for name in locals_and_parameters if hasattr(builtins, name)], [])

    def test_methods(self):
        for path, text, tree in self.each():
            for node in ast.walk(tree):
                if isinstance(node, ast.Call) and isinstance(node.func, ast.Attribute):
                    self.assertIn(node.func.attr, METHODS)

    def test_is_stands_beside_none_alone(self):
        for path, text, tree in self.each():
            for node in ast.walk(tree):
                if isinstance(node, ast.Compare) and isinstance(node.ops[0], (ast.Is, ast.IsNot)):
                    self.assertIsInstance(node.comparators[0], ast.Constant)


if __name__ == "__main__":
    unittest.main()
