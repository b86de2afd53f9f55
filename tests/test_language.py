"""The package keeps to its small part of Python, as far as plain looks at its files can tell."""

import ast
import builtins
import pathlib
import re
import unittest

PACKAGE = pathlib.Path(__file__).resolve().parent.parent / "partrests"
FILES = sorted(PACKAGE.glob("*.py"))

NODES = (
    ast.Module, ast.FunctionDef, ast.ClassDef, ast.Return, ast.Delete, ast.Assign, ast.AugAssign, ast.For, ast.While,
    ast.If, ast.Raise, ast.Try, ast.ExceptHandler, ast.Assert, ast.ImportFrom, ast.alias, ast.Expr, ast.Pass, ast.Break,
    ast.Continue, ast.BoolOp, ast.BinOp, ast.UnaryOp, ast.Lambda, ast.IfExp, ast.Dict, ast.Set, ast.ListComp,
    ast.SetComp, ast.DictComp, ast.comprehension, ast.Compare, ast.Call, ast.keyword, ast.FormattedValue,
    ast.JoinedStr, ast.Constant, ast.Attribute, ast.Subscript, ast.Name, ast.List, ast.Tuple, ast.Slice,
    ast.arguments, ast.arg, ast.expr_context, ast.boolop, ast.operator, ast.unaryop, ast.cmpop, ast.Starred,
)

OWN_OF_PYTHON = set(
    "len range enumerate zip min max sum abs sorted reversed int str bool bytes list tuple dict set frozenset isinstance"
    " ord repr any all divmod Exception ValueError TypeError KeyError IndexError LookupError ZeroDivisionError"
    " ArithmeticError OverflowError RuntimeError NotImplementedError AttributeError StopIteration".split()
)

WORDS_OUT = re.compile(
    r"\b(type|typing|typing_extensions|enum|Enum|IntEnum|StrEnum|Flag|IntFlag|Generic|Protocol|ABC|ABCMeta|namedtuple"
    r"|NamedTuple|TypedDict|TYPE_CHECKING|abstractmethod)\b|dataclass|overload|contextmanager"
)

METHODS = set(
    "append clear copy count endswith extend find get index insert isalnum isalpha isdigit islower isspace isupper items"
    " join keys ljust lower lstrip partition pop remove replace reverse rfind rjust rpartition rsplit rstrip setdefault"
    " split splitlines startswith strip update upper values zfill bit_length add discard sort __init__ isascii"
    " isdecimal removeprefix removesuffix rindex".split()
)


def trees():
    return [(path.name, ast.parse(path.read_text(encoding="ascii"))) for path in FILES]


def bound_names(tree):
    """Every name that a file binds anywhere, with the row that binds it."""
    for node in ast.walk(tree):
        if isinstance(node, ast.Name) and isinstance(node.ctx, ast.Store):
            yield node.id, node.lineno
        elif isinstance(node, ast.arg):
            yield node.arg, node.lineno
        elif isinstance(node, (ast.FunctionDef, ast.ClassDef)):
            yield node.name, node.lineno
        elif isinstance(node, ast.ExceptHandler) and node.name:
            yield node.name, node.lineno


class Language(unittest.TestCase):
    def test_only_python_files_lie_in_the_package(self):
        self.assertTrue((PACKAGE / "__init__.py").is_file())
        for path in PACKAGE.iterdir():
            if path.name != "__pycache__":
                self.assertRegex(path.name, r"^(__init__|[a-z][a-z0-9_]*)\.py$")

    def test_signs_and_sizes(self):
        for path in FILES:
            rows = path.read_text(encoding="ascii").split("\n")
            self.assertLessEqual(len(rows), 400, path)
            for row in rows:
                self.assertLessEqual(len(row), 120, path)
                self.assertRegex(row, r"^[ -~]*$")
                self.assertIsNone(WORDS_OUT.search(row), (path, row))

    def test_functions_are_short(self):
        for name, tree in trees():
            for node in ast.walk(tree):
                if isinstance(node, ast.FunctionDef):
                    self.assertLessEqual(node.end_lineno - node.lineno + 1, 40, (name, node.name))
                    self.assertEqual(node.decorator_list, [])
                    self.assertIsNone(node.args.vararg)
                    self.assertIsNone(node.args.kwarg)
                    self.assertEqual(node.args.posonlyargs, [])

    def test_only_the_told_forms_stand(self):
        for name, tree in trees():
            for node in ast.walk(tree):
                self.assertIsInstance(node, NODES, (name, getattr(node, "lineno", 0)))
                if isinstance(node, (ast.For, ast.While)):
                    self.assertEqual(node.orelse, [], (name, node.lineno))
                if isinstance(node, ast.Constant):
                    self.assertNotIsInstance(node.value, (float, complex), (name, node.lineno))
                if isinstance(node, ast.BinOp):
                    self.assertNotIsInstance(node.op, (ast.Div, ast.MatMult), (name, node.lineno))
                if isinstance(node, ast.BinOp) and isinstance(node.op, ast.Pow):
                    self.assertIsInstance(node.right, ast.Constant, (name, node.lineno))

    def test_the_top_of_a_file(self):
        for name, tree in trees():
            self.assertIsNotNone(ast.get_docstring(tree), name)
            for node in tree.body[1:]:
                self.assertIsInstance(node, (ast.ImportFrom, ast.Assign, ast.FunctionDef, ast.ClassDef), name)

    def test_imports_are_the_packages_own(self):
        for name, tree in trees():
            for node in ast.walk(tree):
                if isinstance(node, ast.ImportFrom):
                    self.assertEqual(node.level, 0)
                    package, _, module = node.module.partition(".")
                    self.assertEqual(package, "partrests")
                    self.assertTrue((PACKAGE / f"{module}.py").is_file(), (name, module))
                    drawn = ast.parse((PACKAGE / f"{module}.py").read_text(encoding="ascii"))
                    there = {row.name for row in drawn.body if isinstance(row, (ast.FunctionDef, ast.ClassDef))}
                    there |= {one.id for row in drawn.body if isinstance(row, ast.Assign) for one in row.targets}
                    for one in node.names:
                        self.assertIn(one.name, there, (name, module))

    def test_no_two_files_draw_from_one_another(self):
        draws = {}
        for name, tree in trees():
            draws[name] = [node.module.partition(".")[2] + ".py" for node in tree.body
                           if isinstance(node, ast.ImportFrom)]
        ended = set()
        while len(ended) < len(draws):
            free = [name for name in draws if name not in ended and all(one in ended for one in draws[name])]
            self.assertNotEqual(free, [], "some files draw from one another")
            ended.update(free)

    def test_names(self):
        for name, tree in trees():
            drawn = {one.name for node in tree.body if isinstance(node, ast.ImportFrom) for one in node.names}
            for bound, row in bound_names(tree):
                if bound == "__init__":
                    continue
                self.assertRegex(bound, r"^[A-Za-z][A-Za-z0-9_]*$", (name, row))
                self.assertFalse(hasattr(builtins, bound), (name, row, bound))
                self.assertNotIn(bound, drawn, (name, row))

    def test_pythons_own_names(self):
        for name, tree in trees():
            for node in ast.walk(tree):
                if isinstance(node, ast.Name) and isinstance(node.ctx, ast.Load) and hasattr(builtins, node.id):
                    self.assertIn(node.id, OWN_OF_PYTHON, (name, node.lineno))

    def test_methods(self):
        values = {"place"}
        for name, tree in trees():
            for node in ast.walk(tree):
                if isinstance(node, ast.Attribute):
                    self.assertIn(node.attr, METHODS | values, (name, node.lineno))

    def test_is_stands_beside_none_and_truths_alone(self):
        for name, tree in trees():
            for node in ast.walk(tree):
                if isinstance(node, ast.Compare):
                    for sign, right in zip(node.ops, node.comparators):
                        if isinstance(sign, (ast.Is, ast.IsNot)):
                            self.assertIn(repr(getattr(right, "value", "")), ("None", "True", "False"), name)

    def test_each_name_is_bound_once_at_a_top(self):
        for name, tree in trees():
            bound = [one.name for node in tree.body if isinstance(node, ast.ImportFrom) for one in node.names]
            bound += [node.name for node in tree.body if isinstance(node, (ast.FunctionDef, ast.ClassDef))]
            bound += [one.id for node in tree.body if isinstance(node, ast.Assign) for one in node.targets]
            self.assertEqual(len(bound), len(set(bound)), name)

    def test_every_name_drawn_is_used(self):
        for name, tree in trees():
            used = {node.id for node in ast.walk(tree) if isinstance(node, ast.Name)}
            drawn = {one.name for node in tree.body if isinstance(node, ast.ImportFrom) for one in node.names}
            self.assertLessEqual(drawn, used, name)

    def test_errors_are_raised_and_taken_by_name(self):
        errors = ast.parse((PACKAGE / "errors.py").read_text(encoding="ascii"))
        own = {node.name for node in errors.body if isinstance(node, ast.ClassDef)}
        for name, tree in trees():
            for node in ast.walk(tree):
                if isinstance(node, ast.Raise):
                    self.assertIsInstance(node.exc, ast.Call, (name, node.lineno))
                    self.assertIn(node.exc.func.id, own, (name, node.lineno))
                    self.assertIn(ast.dump(node.cause or ast.Constant(None)), (ast.dump(ast.Constant(None)),))
                if isinstance(node, ast.ExceptHandler):
                    self.assertIn(getattr(node.type, "id", None), own, (name, node.lineno))

    def test_texts_have_no_percent_and_no_format(self):
        for name, tree in trees():
            for node in ast.walk(tree):
                if isinstance(node, ast.Constant) and isinstance(node.value, str):
                    self.assertNotIn("%", node.value, (name, node.lineno))
                if isinstance(node, ast.FormattedValue):
                    self.assertIsNone(node.format_spec, (name, node.lineno))

    def test_what_is_walked_is_not_kept(self):
        for name, tree in trees():
            for node in ast.walk(tree):
                if isinstance(node, (ast.Assign, ast.AugAssign, ast.Return)) and isinstance(node.value, ast.Call):
                    called = getattr(node.value.func, "id", getattr(node.value.func, "attr", ""))
                    self.assertNotIn(called, ("range", "zip", "enumerate", "reversed", "items", "keys", "values"),
                                     (name, node.lineno))

    def test_sets_are_only_asked_how_many_they_are(self):
        for name, tree in trees():
            inside = [node.args[0] for node in ast.walk(tree) if isinstance(node, ast.Call)
                      and getattr(node.func, "id", "") in ("len", "sorted") and node.args]
            for node in ast.walk(tree):
                self.assertNotIsInstance(node, (ast.Set, ast.SetComp), name)
                if isinstance(node, ast.Call) and getattr(node.func, "id", "") in ("set", "frozenset"):
                    self.assertIn(node, inside, (name, node.lineno))


if __name__ == "__main__":
    unittest.main()
