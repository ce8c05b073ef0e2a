"""Those rules of the program's part of Python that can be seen from the text of a file."""

import ast
import builtins
import pathlib
import re
import unittest

PACKAGE = pathlib.Path(__file__).resolve().parent.parent / "keeper"
FILES = sorted(PACKAGE.glob("*.py"))

NODES = (
    ast.Module, ast.ImportFrom, ast.alias, ast.FunctionDef, ast.arguments, ast.arg, ast.ClassDef, ast.Assign,
    ast.AugAssign, ast.If, ast.While, ast.For, ast.Return, ast.Break, ast.Continue, ast.Pass, ast.Raise, ast.Try,
    ast.ExceptHandler, ast.Expr, ast.Lambda, ast.Constant, ast.List, ast.Tuple, ast.Dict, ast.BinOp, ast.UnaryOp,
    ast.BoolOp, ast.Compare, ast.IfExp, ast.Call, ast.keyword, ast.Attribute, ast.Subscript, ast.Slice, ast.ListComp,
    ast.comprehension, ast.JoinedStr, ast.FormattedValue, ast.Name, ast.expr_context, ast.operator, ast.unaryop,
    ast.boolop, ast.cmpop,
)
OWN = (
    "len range enumerate zip min max sum abs sorted reversed int str bool list tuple dict set frozenset isinstance ord "
    "repr any all divmod Exception ValueError TypeError KeyError IndexError LookupError ZeroDivisionError "
    "ArithmeticError OverflowError RuntimeError NotImplementedError AttributeError StopIteration"
).split()
METHODS = (
    "append clear copy count endswith extend find get index insert isalnum isalpha isdigit islower isspace isupper "
    "items join keys ljust lower lstrip partition pop remove replace reverse rfind rjust rpartition rsplit rstrip "
    "setdefault split splitlines startswith strip update upper values zfill bit_length"
).split()
UNUSED = re.compile(
    r"\b(type|typing|typing_extensions|enum|Enum|IntEnum|StrEnum|Flag|IntFlag|Generic|Protocol|ABC|ABCMeta|namedtuple|"
    r"NamedTuple|TypedDict|TYPE_CHECKING|abstractmethod)\b|dataclass|overload|contextmanager"
)


def bound_names(tree):
    names = []
    for node in ast.walk(tree):
        if isinstance(node, (ast.FunctionDef, ast.ClassDef)):
            names.append(node.name)
        elif isinstance(node, ast.arg):
            names.append(node.arg)
        elif isinstance(node, ast.Name) and isinstance(node.ctx, ast.Store):
            names.append(node.id)
        elif isinstance(node, ast.ExceptHandler) and node.name:
            names.append(node.name)
    return names


def imported(tree):
    return [(node.module, alias.name) for node in tree.body if isinstance(node, ast.ImportFrom) for alias in node.names]


def is_plain(value, functions):
    """Plain values, and lists, tuples and dicts of these and of the functions that stand above."""
    if isinstance(value, ast.Name):
        return value.id in functions
    if isinstance(value, (ast.List, ast.Tuple)):
        return all(is_plain(part, functions) for part in value.elts)
    if isinstance(value, ast.Dict):
        return all(is_plain(part, functions) for part in value.keys + value.values)
    ast.literal_eval(value)
    return True


def holds_lists(value):
    return any(isinstance(node, (ast.List, ast.Dict)) for node in ast.walk(value) if node is not value)


def parents_of(tree):
    return {kid: node for node in ast.walk(tree) for kid in ast.iter_child_nodes(node)}


def called(node):
    """The name that a call calls, or its method's name."""
    if isinstance(node, ast.Call):
        return node.func.id if isinstance(node.func, ast.Name) else getattr(node.func, "attr", None)
    return None


def is_walked(node, parent):
    if isinstance(parent, (ast.For, ast.comprehension)):
        return parent.iter is node
    walkers = ("list", "tuple", "dict", "sorted", "sum", "any", "all", "enumerate", "zip", "min", "max", "join")
    return called(parent) in walkers


def is_read(node, parent):
    """Whether a list or dict of a file's top is only read where it stands."""
    if isinstance(parent, (ast.Subscript, ast.For, ast.comprehension)):
        return isinstance(getattr(parent, "ctx", ast.Load()), ast.Load)
    if isinstance(parent, ast.Compare):
        return True
    if isinstance(parent, ast.Attribute):
        return parent.attr in ("get", "items", "keys", "values", "index", "count")
    return called(parent) in ("len", "list", "dict", "tuple", "sorted", "enumerate", "zip", "sum", "min", "max")


def is_text(node):
    return isinstance(node, ast.Expr) and isinstance(node.value, ast.Constant) and isinstance(node.value.value, str)


class LanguageTest(unittest.TestCase):
    def each(self):
        for path in FILES:
            text = path.read_text(encoding="utf-8")
            yield path.name, text, ast.parse(text)

    def each_node(self):
        for name, text, tree in self.each():
            for node in ast.walk(tree):
                yield (name, getattr(node, "lineno", 0)), node

    def test_files(self):
        self.assertIn("__init__.py", [path.name for path in FILES])
        for path in PACKAGE.iterdir():
            if path.name != "__pycache__":
                self.assertRegex(path.name, r"^(__init__|[a-z][a-z0-9_]*)\.py$")
        for name, text, tree in self.each():
            self.assertRegex(text, r"\A[\n -~]*\Z", name)
            self.assertNotRegex(text, UNUSED, name)
            self.assertLessEqual(len(text.splitlines()), 400, name)
            self.assertLessEqual(max(len(line) for line in text.splitlines()), 120, name)

    def test_the_top_of_a_file(self):
        for name, text, tree in self.each():
            self.assertTrue(is_text(tree.body[0]), name)
            for node in tree.body[1:]:
                self.assertIsInstance(node, (ast.ImportFrom, ast.Assign, ast.FunctionDef, ast.ClassDef), name)
                if isinstance(node, ast.Assign):
                    above = [found.name for found in tree.body if isinstance(found, ast.FunctionDef)
                             and found.lineno < node.lineno]
                    self.assertTrue(is_plain(node.value, above), (name, node.lineno))
                    self.assertFalse(holds_lists(node.value), (name, node.lineno))
            tops = [target.id for top in tree.body if isinstance(top, ast.Assign) for target in top.targets]
            tops += [node.name for node in tree.body if isinstance(node, (ast.FunctionDef, ast.ClassDef))]
            tops += [found for module, found in imported(tree)]
            self.assertEqual(len(tops), len(set(tops)), name)

    def test_imports(self):
        drawn = {}
        for name, text, tree in self.each():
            drawn[name] = [module for module, found in imported(tree)]
            for module, found in imported(tree):
                parts = module.split(".")
                self.assertEqual((parts[0], len(parts)), ("keeper", 2), name)
                source = ast.parse((PACKAGE / (parts[1] + ".py")).read_text(encoding="utf-8"))
                self.assertIn(found, bound_names(source), name)
        while drawn:
            free = [name for name in drawn if not any(module[7:] + ".py" in drawn for module in drawn[name])]
            self.assertTrue(free, drawn)
            drawn = {name: drawn[name] for name in drawn if name not in free}

    def test_statements_and_expressions(self):
        for where, node in self.each_node():
            self.assertIsInstance(node, NODES, where)
            if isinstance(node, ast.Assign):
                self.assertEqual(len(node.targets), 1, where)
            if isinstance(node, (ast.For, ast.While)):
                self.assertEqual(node.orelse, [], where)
            if isinstance(node, ast.Try):
                self.assertEqual(node.finalbody, [], where)
            if isinstance(node, ast.Expr) and not is_text(node):
                self.assertIsInstance(node.value, ast.Call, where)
            if isinstance(node, ast.ListComp):
                self.assertEqual(len(node.generators), 1, where)
                self.assertLessEqual(len(node.generators[0].ifs), 1, where)
            if isinstance(node, ast.Constant):
                self.assertNotIsInstance(node.value, (float, complex, bytes), where)
                self.assertFalse(isinstance(node.value, str) and "%" in node.value, where)
            self.assertNotIsInstance(node, (ast.Div, ast.MatMult), where)

    def test_is_stands_beside_none_and_truths_alone(self):
        for where, node in self.each_node():
            if isinstance(node, ast.Compare) and any(isinstance(sign, (ast.Is, ast.IsNot)) for sign in node.ops):
                sides = [node.left] + node.comparators
                self.assertTrue(any(isinstance(side, ast.Constant) for side in sides), where)

    def test_functions_and_classes(self):
        for where, node in self.each_node():
            if isinstance(node, (ast.FunctionDef, ast.ClassDef)):
                self.assertEqual(node.decorator_list, [], where)
            if isinstance(node, ast.FunctionDef):
                self.assertLessEqual(node.end_lineno - node.lineno + 1, 40, where)
            if isinstance(node, ast.arguments):
                self.assertEqual((node.posonlyargs, node.kwonlyargs), ([], []), where)
                self.assertIsNone(node.vararg or node.kwarg, where)
            if isinstance(node, ast.ClassDef):
                self.assertLessEqual(len(node.bases), 1, where)
                for inner in node.body:
                    self.assertIsInstance(inner, (ast.FunctionDef, ast.Pass), where)

    def test_names(self):
        for name, text, tree in self.each():
            bound = bound_names(tree) + [found for module, found in imported(tree)]
            for found in bound:
                self.assertRegex(found, r"^([A-Za-z][A-Za-z0-9_]*|__(init|eq|repr|str|len)__)$", name)
                self.assertFalse(found != "__init__" and hasattr(builtins, found), (name, found))
            for node in ast.walk(tree):
                if isinstance(node, ast.Name) and isinstance(node.ctx, ast.Load):
                    self.assertIn(node.id, bound + OWN, (name, node.lineno))

    def test_no_local_is_called_like_an_import_or_a_class(self):
        for name, text, tree in self.each():
            taken = [found for module, found in imported(tree)]
            taken += [node.name for node in tree.body if isinstance(node, ast.ClassDef)]
            for top in tree.body:
                if isinstance(top, ast.FunctionDef):
                    for found in bound_names(top):
                        self.assertNotIn(found, taken, (name, top.name))

    def test_lists_and_dicts_of_the_top_are_only_read(self):
        for name, text, tree in self.each():
            kept = [top.targets[0].id for top in tree.body
                    if isinstance(top, ast.Assign) and isinstance(top.value, (ast.List, ast.Dict))]
            parents = parents_of(tree)
            for node in ast.walk(tree):
                if isinstance(node, ast.Name) and isinstance(node.ctx, ast.Load) and node.id in kept:
                    self.assertTrue(is_read(node, parents[node]), (name, node.lineno))

    def test_walked_at_once(self):
        for name, text, tree in self.each():
            parents = parents_of(tree)
            for node in ast.walk(tree):
                if called(node) in ("zip", "enumerate", "reversed", "range", "items", "keys", "values"):
                    self.assertTrue(is_walked(node, parents[node]), (name, node.lineno))
                if called(node) in ("set", "frozenset"):
                    beside = isinstance(parents[node], (ast.Compare, ast.BinOp))
                    self.assertTrue(beside or called(parents[node]) in ("sorted", "len"), (name, node.lineno))

    def test_pythons_own_are_called_not_kept(self):
        errors = [found for found in OWN if found[0].isupper()]
        for name, text, tree in self.each():
            parents = parents_of(tree)
            for node in ast.walk(tree):
                if isinstance(node, ast.Name) and node.id in OWN and node.id not in errors:
                    parent = parents[node]
                    beside = called(parents.get(parent)) == "isinstance" or called(parent) == "isinstance"
                    self.assertTrue(beside or getattr(parent, "func", None) is node, (name, node.lineno))

    def test_methods_and_values_of_objects(self):
        methods, values = [], []
        for where, node in self.each_node():
            if isinstance(node, ast.ClassDef):
                own = [inner.name for inner in node.body if isinstance(inner, ast.FunctionDef)]
                self.assertEqual(len(own), len(set(own)), where)
                methods += own
            if isinstance(node, ast.Attribute) and isinstance(node.ctx, ast.Store):
                self.assertEqual(getattr(node.value, "id", None), "self", where)
                values.append(node.attr)
        self.assertEqual(set(methods) & set(values), set())
        for found in set(methods + values) - {"__init__"}:
            self.assertRegex(found, r"^[A-Za-z][A-Za-z0-9_]*$")
            for kept in ("", 0, [], {}, set(), b"", ()):
                self.assertFalse(hasattr(kept, found), found)

    def test_keywords_annotations_and_powers(self):
        keywords = {"sorted": ("key", "reverse"), "min": ("key", "default"), "max": ("key", "default"),
                    "sum": ("start",), "enumerate": ("start",), "zip": ("strict",)}
        for where, node in self.each_node():
            if isinstance(node, ast.Call) and (called(node) in OWN + METHODS or isinstance(node.func, ast.Attribute)):
                for keyword in node.keywords:
                    self.assertIn(keyword.arg, keywords.get(called(node), ()), where)
            if isinstance(node, ast.arg):
                self.assertIsNone(node.annotation, where)
            if isinstance(node, ast.FunctionDef):
                self.assertIsNone(node.returns, where)
            self.assertNotIsInstance(node, ast.Pow, where)

    def test_texts_with_names_in_braces(self):
        for where, node in self.each_node():
            if isinstance(node, ast.FormattedValue):
                self.assertIsInstance(node.value, ast.Name, where)
                self.assertIn(node.conversion, (-1, ord("r")), where)
                self.assertIsNone(node.format_spec, where)

    def test_classes_are_not_handed_on(self):
        for name, text, tree in self.each():
            classes = [node.name for node in tree.body if isinstance(node, ast.ClassDef)]
            classes += [found for module, found in imported(tree) if found[:1].isupper() and not found.isupper()]
            parents = parents_of(tree)
            for node in ast.walk(tree):
                if isinstance(node, ast.Name) and node.id in classes:
                    parent = parents[node]
                    stands = isinstance(parent, (ast.ClassDef, ast.ExceptHandler)) or called(parent) == "isinstance"
                    self.assertTrue(stands or getattr(parent, "func", None) is node, (name, node.lineno))

    def test_errors_are_taken_by_name(self):
        for name, text, tree in self.each():
            own = [found for module, found in imported(tree) if module == "keeper.errors"]
            for node in ast.walk(tree):
                if isinstance(node, ast.ExceptHandler):
                    parts = node.type.elts if isinstance(node.type, ast.Tuple) else [node.type]
                    for part in parts:
                        self.assertIn(part.id, own + ["KeyError", "ZeroDivisionError", "StopIteration"], name)
                if isinstance(node, ast.Raise):
                    self.assertIn(called(node.exc), own, (name, node.lineno))

    def test_methods(self):
        methods = list(METHODS)
        for where, node in self.each_node():
            if isinstance(node, ast.ClassDef):
                methods += [inner.name for inner in node.body if isinstance(inner, ast.FunctionDef)]
        for where, node in self.each_node():
            if isinstance(node, ast.Call) and isinstance(node.func, ast.Attribute):
                self.assertIn(node.func.attr, methods, where)


if __name__ == "__main__":
    unittest.main()
