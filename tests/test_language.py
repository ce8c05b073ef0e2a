"""Those rules of the program's part of Python that can be seen from the text of a file."""

import ast
import builtins
import pathlib
import re
import unittest

PACKAGE = pathlib.Path(__file__).resolve().parent.parent / "keeper"
FILES = sorted(PACKAGE.glob("*.py"))

NODES = (
    ast.Module, ast.ImportFrom, ast.alias, ast.FunctionDef, ast.arguments, ast.arg, ast.ClassDef, ast.Assign,
    ast.AugAssign, ast.If, ast.While, ast.For, ast.Return, ast.Break, ast.Continue, ast.Pass, ast.Raise, ast.Try,
    ast.ExceptHandler, ast.Expr, ast.Lambda, ast.Constant, ast.List, ast.Tuple, ast.Dict, ast.BinOp, ast.UnaryOp,
    ast.BoolOp, ast.Compare, ast.IfExp, ast.Call, ast.keyword, ast.Attribute, ast.Subscript, ast.Slice, ast.ListComp,
    ast.comprehension, ast.JoinedStr, ast.FormattedValue, ast.Name, ast.expr_context, ast.operator, ast.unaryop,
    ast.boolop, ast.cmpop,
)
OWN = (
    "len range enumerate zip min max sum abs sorted reversed int str bool list tuple dict set frozenset isinstance ord "
    "repr any all divmod Exception ValueError TypeError KeyError IndexError LookupError ZeroDivisionError "
    "ArithmeticError OverflowError RuntimeError NotImplementedError AttributeError StopIteration"
).split()
METHODS = (
    "append clear copy count endswith extend find get index insert isalnum isalpha isdigit islower isspace isupper "
    "items join keys ljust lower lstrip partition pop remove replace reverse rfind rjust rpartition rsplit rstrip "
    "setdefault split splitlines startswith strip update upper values zfill bit_length"
).split()
UNUSED = re.compile(
    r"\b(type|typing|typing_extensions|enum|Enum|IntEnum|StrEnum|Flag|IntFlag|Generic|Protocol|ABC|ABCMeta|namedtuple|"
    r"NamedTuple|TypedDict|TYPE_CHECKING|abstractmethod)\b|dataclass|overload|contextmanager"
)


def bound_names(tree):
    names = []
    for node in ast.walk(tree):
        if isinstance(node, (ast.FunctionDef, ast.ClassDef)):
            names.append(node.name)
        elif isinstance(node, ast.arg):
            names.append(node.arg)
        elif isinstance(node, ast.Name) and isinstance(node.ctx, ast.Store):
            names.append(node.id)
        elif isinstance(node, ast.ExceptHandler) and node.name:
            names.append(node.name)
    return names


def imported(tree):
    return [(node.module, alias.name) for node in tree.body if isinstance(node, ast.ImportFrom) for alias in node.names]


def is_text(node):
    return isinstance(node, ast.Expr) and isinstance(node.value, ast.Constant) and isinstance(node.value.value, str)


class LanguageTest(unittest.TestCase):
    def each(self):
        for path in FILES:
            text = path.read_text(encoding="utf-8")
            yield path.name, text, ast.parse(text)

    def each_node(self):
        for name, text, tree in self.each():
            for node in ast.walk(tree):
                yield (name, getattr(node, "lineno", 0)), node

    def test_files(self):
        self.assertIn("__init__.py", [path.name for path in FILES])
        for path in PACKAGE.iterdir():
            if path.name != "__pycache__":
                self.assertRegex(path.name, r"^(__init__|[a-z][a-z0-9_]*)\.py$")
        for name, text, tree in self.each():
            self.assertRegex(text, r"\A[\n -~]*\Z", name)
            self.assertNotRegex(text, UNUSED, name)
            self.assertLessEqual(len(text.splitlines()), 400, name)
            self.assertLessEqual(max(len(line) for line in text.splitlines()), 120, name)

    def test_the_top_of_a_file(self):
        for name, text, tree in self.each():
            self.assertTrue(is_text(tree.body[0]), name)
            for node in tree.body[1:]:
                self.assertIsInstance(node, (ast.ImportFrom, ast.Assign, ast.FunctionDef, ast.ClassDef), name)
                if isinstance(node, ast.Assign):
                    ast.literal_eval(node.value)
            tops = [node.id for top in tree.body for node in ast.walk(top)
                    if isinstance(top, ast.Assign) and isinstance(node, ast.Name)]
            tops += [node.name for node in tree.body if isinstance(node, (ast.FunctionDef, ast.ClassDef))]
            tops += [found for module, found in imported(tree)]
            self.assertEqual(len(tops), len(set(tops)), name)

    def test_imports(self):
        drawn = {}
        for name, text, tree in self.each():
            drawn[name] = [module for module, found in imported(tree)]
            for module, found in imported(tree):
                parts = module.split(".")
                self.assertEqual((parts[0], len(parts)), ("keeper", 2), name)
                source = ast.parse((PACKAGE / (parts[1] + ".py")).read_text(encoding="utf-8"))
                self.assertIn(found, bound_names(source), name)
        while drawn:
            free = [name for name in drawn if not any(module[7:] + ".py" in drawn for module in drawn[name])]
            self.assertTrue(free, drawn)
            drawn = {name: drawn[name] for name in drawn if name not in free}

    def test_statements_and_expressions(self):
        for where, node in self.each_node():
            self.assertIsInstance(node, NODES, where)
            if isinstance(node, ast.Assign):
                self.assertEqual(len(node.targets), 1, where)
            if isinstance(node, (ast.For, ast.While)):
                self.assertEqual(node.orelse, [], where)
            if isinstance(node, ast.Try):
                self.assertEqual(node.finalbody, [], where)
            if isinstance(node, ast.Expr) and not is_text(node):
                self.assertIsInstance(node.value, ast.Call, where)
            if isinstance(node, ast.ListComp):
                self.assertEqual(len(node.generators), 1, where)
                self.assertLessEqual(len(node.generators[0].ifs), 1, where)
            if isinstance(node, ast.Constant):
                self.assertNotIsInstance(node.value, (float, complex, bytes), where)
                self.assertFalse(isinstance(node.value, str) and "%" in node.value, where)
            self.assertNotIsInstance(node, (ast.Div, ast.MatMult), where)

    def test_is_stands_beside_none_and_truths_alone(self):
        for where, node in self.each_node():
            if isinstance(node, ast.Compare) and any(isinstance(sign, (ast.Is, ast.IsNot)) for sign in node.ops):
                sides = [node.left] + node.comparators
                self.assertTrue(any(isinstance(side, ast.Constant) for side in sides), where)

    def test_functions_and_classes(self):
        for where, node in self.each_node():
            if isinstance(node, (ast.FunctionDef, ast.ClassDef)):
                self.assertEqual(node.decorator_list, [], where)
            if isinstance(node, ast.FunctionDef):
                self.assertLessEqual(node.end_lineno - node.lineno + 1, 40, where)
            if isinstance(node, ast.arguments):
                self.assertEqual((node.posonlyargs, node.kwonlyargs), ([], []), where)
                self.assertIsNone(node.vararg or node.kwarg, where)
            if isinstance(node, ast.ClassDef):
                self.assertLessEqual(len(node.bases), 1, where)
                for inner in node.body:
                    self.assertIsInstance(inner, (ast.FunctionDef, ast.Pass), where)

    def test_names(self):
        for name, text, tree in self.each():
            bound = bound_names(tree) + [found for module, found in imported(tree)]
            for found in bound:
                self.assertRegex(found, r"^([A-Za-z][A-Za-z0-9_]*|__(init|eq|repr|str|len)__)$", name)
                self.assertFalse(hasattr(builtins, found), (name, found))
            for node in ast.walk(tree):
                if isinstance(node, ast.Name) and isinstance(node.ctx, ast.Load):
                    self.assertIn(node.id, bound + OWN, (name, node.lineno))

    def test_methods(self):
        methods = list(METHODS)
        for where, node in self.each_node():
            if isinstance(node, ast.ClassDef):
                methods += [inner.name for inner in node.body if isinstance(inner, ast.FunctionDef)]
        for where, node in self.each_node():
            if isinstance(node, ast.Call) and isinstance(node.func, ast.Attribute):
                self.assertIn(node.func.attr, methods, where)


if __name__ == "__main__":
    unittest.main()
