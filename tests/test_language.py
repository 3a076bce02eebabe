"""The package's files keep to the part of Python that the program is written in.

Not each rule can be looked at here; those that a slip breaks most easily are.
"""

import ast
import builtins
import pathlib
import re
import unittest

PACKAGE = pathlib.Path(__file__).resolve().parent.parent / "timetable"
FILES = sorted(path for path in PACKAGE.rglob("*") if path.is_file() and "__pycache__" not in path.parts)

STATEMENTS = (ast.Assign, ast.AugAssign, ast.If, ast.While, ast.For, ast.Return, ast.Break, ast.Continue, ast.Pass, ast.Raise, ast.Try,
              ast.Expr, ast.FunctionDef, ast.ClassDef, ast.ImportFrom)
NOT_USED = (ast.Div, ast.SetComp, ast.DictComp, ast.GeneratorExp, ast.NamedExpr, ast.Starred, ast.Yield, ast.YieldFrom, ast.Await, ast.Set)
PYTHONS_OWN = set(
    "len range enumerate zip min max sum abs sorted reversed int str bool list tuple dict set frozenset isinstance ord repr any all divmod"
    " Exception ValueError TypeError KeyError IndexError LookupError ZeroDivisionError ArithmeticError OverflowError RuntimeError"
    " NotImplementedError StopIteration".split())
METHODS = set(
    "append clear copy count endswith extend find get index insert isalnum isalpha isdigit islower isspace isupper items join keys ljust"
    " lower lstrip partition pop remove replace reverse rfind rjust rpartition rsplit rstrip setdefault split splitlines startswith strip"
    " update upper values zfill bit_length".split())
WORDS = re.compile(
    r"\b(type|typing|typing_extensions|enum|Enum|IntEnum|StrEnum|Flag|IntFlag|Generic|Protocol|ABC|ABCMeta|namedtuple|NamedTuple|TypedDict"
    r"|TYPE_CHECKING|abstractmethod)\b|dataclass|overload|contextmanager")
NAMES_OUT = set(
    "register mro elements open input version_info with_traceback add_note attrgetter breakpoint builtins compile copyright credits delattr"
    " dir eval exec exit gc getattr globals hasattr help id importlib license locals methodcaller os quit setattr super type vars sys"
    " format format_map chr print".split())


def trees():
    return [(path.name, ast.parse(path.read_text("utf-8"))) for path in FILES]


def nodes(*kinds):
    return [(f"{name}:{node.lineno}", node) for name, tree in trees() for node in ast.walk(tree) if isinstance(node, kinds)]


def bound_names(tree):
    found = []
    for node in ast.walk(tree):
        if isinstance(node, ast.Name) and isinstance(node.ctx, ast.Store):
            found.append(node.id)
        if isinstance(node, ast.arg):
            found.append(node.arg)
        if isinstance(node, (ast.FunctionDef, ast.ClassDef)):
            found.append(node.name)
        if isinstance(node, ast.alias):
            found.append(node.asname or node.name)
    return found


class Files(unittest.TestCase):
    def test_plain_names(self):
        for path in FILES:
            self.assertEqual(path.parent, PACKAGE)
            self.assertRegex(path.name, r"^([a-z][a-z0-9_]*|__init__)\.py$")
            self.assertNotIn(path.stem, dir(builtins))

    def test_sizes_and_signs(self):
        for path in FILES:
            lines = path.read_text("utf-8").split("\n")
            self.assertLessEqual(len(lines), 400, path.name)
            for line in lines:
                self.assertLessEqual(len(line), 120, line)
                self.assertRegex(line, "^[ -~]*$")
                self.assertIsNone(WORDS.search(line), line)

    def test_functions_are_short(self):
        for where, node in nodes(ast.FunctionDef):
            self.assertLessEqual(node.end_lineno - node.lineno + 1, 40, where)


class Top(unittest.TestCase):
    def test_the_top_of_a_file(self):
        for name, tree in trees():
            self.assertIsNotNone(ast.get_docstring(tree), name)
            for node in tree.body[1:]:
                self.assertIsInstance(node, (ast.ImportFrom, ast.FunctionDef, ast.ClassDef, ast.Assign), name)
                if isinstance(node, ast.Assign):
                    plain = (ast.Constant, ast.Tuple, ast.List, ast.Dict, ast.Name, ast.UnaryOp, ast.USub, ast.Load)
                    self.assertTrue(all(isinstance(part, plain) for part in ast.walk(node.value)), name)

    def test_each_name_once(self):
        for name, tree in trees():
            told = []
            for node in tree.body:
                told.extend([target.id for target in node.targets] if isinstance(node, ast.Assign) else [])
                told.extend([alias.name for alias in node.names] if isinstance(node, ast.ImportFrom) else [])
                told.extend([node.name] if isinstance(node, (ast.FunctionDef, ast.ClassDef)) else [])
            self.assertEqual(len(told), len(set(told)), name)

    def test_imports(self):
        drawn = {name: [node.module for node in tree.body if isinstance(node, ast.ImportFrom)] for name, tree in trees()}
        own = {name: {node.name for node in tree.body if hasattr(node, "name")} | {
            target.id for node in tree.body if isinstance(node, ast.Assign) for target in node.targets} for name, tree in trees()}
        for where, node in nodes(ast.Import, ast.ImportFrom):
            self.assertIsInstance(node, ast.ImportFrom, where)
            self.assertRegex(node.module, r"^timetable\.[a-z]+$", where)
            for alias in node.names:
                self.assertIn(alias.name, own[node.module.split(".")[1] + ".py"], where)
                self.assertIsNone(alias.asname, where)
        self.assertEqual(drawn["__init__.py"], [])
        self.assert_no_circle({name: [module.split(".")[1] + ".py" for module in modules] for name, modules in drawn.items()})

    def assert_no_circle(self, drawn):
        done = []
        while len(done) < len(drawn):
            ready = [name for name in drawn if name not in done and all(other in done for other in drawn[name])]
            self.assertNotEqual(ready, [], "files draw from one another")
            done.extend(ready)


class Code(unittest.TestCase):
    def test_statements(self):
        for where, node in nodes(ast.stmt):
            self.assertIsInstance(node, STATEMENTS, where)
            if isinstance(node, ast.Expr):
                self.assertIsInstance(node.value, (ast.Call, ast.Constant), where)
            if isinstance(node, ast.Assign):
                self.assertEqual(len(node.targets), 1, where)
                self.assertNotIsInstance(node.targets[0], (ast.Tuple, ast.List), where)
            if isinstance(node, (ast.For, ast.While)):
                self.assertEqual(node.orelse, [], where)

    def test_expressions(self):
        for name, tree in trees():
            for node in ast.walk(tree):
                self.assertNotIsInstance(node, NOT_USED, name)
        for where, node in nodes(ast.Constant):
            self.assertIsInstance(node.value, (int, str, type(None)), where)
            self.assertNotIn("%", str(node.value), where)
        for where, node in nodes(ast.ListComp):
            self.assertEqual(len(node.generators), 1, where)
            self.assertLessEqual(len(node.generators[0].ifs), 1, where)
        for where, node in nodes(ast.FormattedValue):
            self.assertIsInstance(node.value, ast.Name, where)
            self.assertIsNone(node.format_spec, where)
        for where, node in nodes(ast.Compare):
            for operator, other in zip(node.ops, node.comparators):
                if isinstance(operator, (ast.Is, ast.IsNot)):
                    self.assertIsInstance(other, ast.Constant, where)

    def test_definitions(self):
        for where, node in nodes(ast.FunctionDef, ast.ClassDef):
            self.assertEqual(node.decorator_list, [], where)
        for where, node in nodes(ast.FunctionDef, ast.Lambda):
            told = node.args
            self.assertEqual((told.vararg, told.kwarg, told.kwonlyargs, told.posonlyargs), (None, None, [], []), where)

    def test_names(self):
        for name, tree in trees():
            bound = bound_names(tree)
            for word in bound:
                if word != "__init__":
                    self.assertRegex(word, "^[A-Za-z][A-Za-z0-9_]*$", name)
                self.assertNotIn(word, dir(builtins), name)
                self.assertNotIn(word, NAMES_OUT, name)
            for node in ast.walk(tree):
                if isinstance(node, ast.Name) and node.id not in bound:
                    self.assertIn(node.id, PYTHONS_OWN, name)

    def test_no_local_is_called_like_a_class_or_an_import(self):
        for name, tree in trees():
            top = [alias.name for node in tree.body if isinstance(node, ast.ImportFrom) for alias in node.names]
            top = top + [node.name for node in tree.body if isinstance(node, (ast.ClassDef, ast.FunctionDef))]
            for node in ast.walk(tree):
                if isinstance(node, ast.arg):
                    self.assertNotIn(node.arg, top, name)
                if isinstance(node, ast.Name) and isinstance(node.ctx, ast.Store):
                    self.assertNotIn(node.id, top, name)

    def test_methods_and_values(self):
        own = {node.name for where, outer in nodes(ast.ClassDef) for node in outer.body if isinstance(node, ast.FunctionDef)}
        called = [node.func for where, node in nodes(ast.Call) if isinstance(node.func, ast.Attribute)]
        for node in called:
            self.assertIn(node.attr, METHODS | own)
        places = {(node.lineno, node.col_offset, node.attr) for node in called}
        taken = set(dir("") + dir(0) + dir([]) + dir({}) + dir(set()) + dir(b""))
        for where, node in nodes(ast.Attribute):
            self.assertNotIn(node.attr, NAMES_OUT, where)
            if (node.lineno, node.col_offset, node.attr) not in places:
                self.assertNotIn(node.attr, own | taken, where)


if __name__ == "__main__":
    unittest.main()
