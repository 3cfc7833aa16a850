"""The package keeps to the small part of Python that it is written in, as far as its text shows."""

import ast
import builtins
import os
import re
import unittest

PACKAGE = os.path.join(os.path.dirname(os.path.dirname(os.path.abspath(__file__))), "boxsums")

STATEMENTS = (ast.FunctionDef, ast.ClassDef, ast.ImportFrom, ast.Assign, ast.AugAssign, ast.If, ast.While, ast.For,
              ast.Return, ast.Break, ast.Continue, ast.Pass, ast.Raise, ast.Try, ast.Expr)
EXPRESSIONS = (ast.Constant, ast.List, ast.Tuple, ast.Dict, ast.Set, ast.BinOp, ast.UnaryOp, ast.BoolOp, ast.Compare,
               ast.IfExp, ast.Call, ast.Attribute, ast.Subscript, ast.Slice, ast.ListComp, ast.Name, ast.Lambda,
               ast.JoinedStr, ast.FormattedValue)
OWN_NAMES = set("""len range enumerate zip min max sum abs sorted reversed int str bool list tuple dict set frozenset
    isinstance ord repr any all divmod Exception ValueError TypeError KeyError IndexError LookupError
    ZeroDivisionError ArithmeticError OverflowError RuntimeError NotImplementedError StopIteration""".split())
OWN_METHODS = set("""append clear copy count endswith extend find get index insert isalnum isalpha isdigit islower
    isspace isupper items join keys ljust lower lstrip partition pop remove replace reverse rfind rjust rpartition
    rsplit rstrip setdefault split splitlines startswith strip update upper values zfill bit_length""".split())
WALKED = ("zip", "enumerate", "reversed", "range")
UNUSED = set("""register mro elements open input version_info with_traceback add_note attrgetter breakpoint builtins
    compile copyright credits delattr dir eval exec exit gc getattr globals hasattr help id importlib license locals
    methodcaller os quit setattr super type vars sys format format_map""".split())
NO_WORDS = re.compile(r"\b(type|typing|typing_extensions|enum|Enum|IntEnum|StrEnum|Flag|IntFlag|Generic|Protocol|ABC"
                      r"|ABCMeta|namedtuple|NamedTuple|TypedDict|TYPE_CHECKING|abstractmethod)\b"
                      r"|dataclass|overload|contextmanager")
DUNDERS = ("__init__", "__eq__", "__repr__", "__str__", "__len__")


def sources():
    found = {}
    for name in sorted(os.listdir(PACKAGE)):
        if name == "__pycache__":
            continue
        with open(os.path.join(PACKAGE, name), encoding="utf-8", newline="") as file:
            found[name] = file.read()
    return found


def own_imports(tree):
    return [row for row in ast.walk(tree) if isinstance(row, (ast.Import, ast.ImportFrom))]


def top_names(tree):
    names = []
    for row in tree.body:
        if isinstance(row, (ast.FunctionDef, ast.ClassDef)):
            names.append(row.name)
        elif isinstance(row, ast.Assign):
            names.extend(target.id for target in row.targets)
    return names


def local_names(function):
    names = [arg.arg for arg in function.args.args]
    for node in ast.walk(function):
        if isinstance(node, ast.Name) and isinstance(node.ctx, ast.Store):
            names.append(node.id)
    return names


class Language(unittest.TestCase):
    def setUp(self):
        self.sources = sources()
        self.trees = {name: ast.parse(text) for name, text in self.sources.items()}

    def nodes(self):
        for name, tree in self.trees.items():
            for node in ast.walk(tree):
                yield node, f"{name}:{getattr(node, 'lineno', 0)}"

    def test_files(self):
        self.assertIn("__init__.py", self.sources)
        for name in self.sources:
            self.assertRegex(name, r"^([a-z][a-z0-9_]*|__init__|__main__)\.py$")
            self.assertNotIn(name[:-3], dir(builtins))
            self.assertNotRegex(name, r"^(test|tests|testing|test_.*|site|conftest|.*customize)\.py$")

    def test_signs_and_sizes(self):
        for name, text in self.sources.items():
            self.assertRegex(text, r"\A[ -~\n]*\Z", name)
            self.assertNotRegex(text, NO_WORDS, name)
            lines = text.split("\n")
            self.assertLessEqual(len(lines), 400, name)
            self.assertLessEqual(max(len(line) for line in lines), 120, name)
        for node, where in self.nodes():
            if isinstance(node, ast.FunctionDef):
                self.assertLessEqual(node.end_lineno - node.lineno + 1, 40, where)

    def test_only_listed_forms(self):
        for node, where in self.nodes():
            if isinstance(node, ast.stmt):
                self.assertIsInstance(node, STATEMENTS, where)
            if isinstance(node, ast.expr):
                self.assertIsInstance(node, EXPRESSIONS, where)
            self.assertNotIsInstance(node, (ast.Div, ast.MatMult), where)
            if isinstance(node, ast.Constant):
                self.assertIn(type(node.value), (int, str, bool, type(None)), where)
            if isinstance(node, (ast.For, ast.While)):
                self.assertEqual(node.orelse, [], where)
            if isinstance(node, ast.Try):
                self.assertEqual(node.finalbody, [], where)
            if isinstance(node, ast.Assign):
                self.assertEqual(len(node.targets), 1, where)
            if isinstance(node, ast.ListComp):
                self.assertEqual(len(node.generators), 1, where)
                self.assertLessEqual(len(node.generators[0].ifs), 1, where)
            if isinstance(node, ast.BinOp) and isinstance(node.op, ast.Pow):
                self.assertIsInstance(node.right, ast.Constant, where)

    def test_statements_by_themselves_are_calls(self):
        for name, tree in self.trees.items():
            for node in ast.walk(tree):
                if isinstance(node, ast.Expr) and node is not tree.body[0]:
                    self.assertIsInstance(node.value, ast.Call, f"{name}:{node.lineno}")
            self.assertTrue(ast.get_docstring(tree), name)

    def test_functions_and_classes(self):
        for node, where in self.nodes():
            if isinstance(node, ast.FunctionDef):
                given = node.args
                self.assertEqual((given.vararg, given.kwarg, given.kwonlyargs, given.posonlyargs),
                                 (None, None, [], []), where)
                self.assertEqual((node.decorator_list, node.returns), ([], None), where)
                self.assertTrue(all(arg.annotation is None for arg in given.args), where)
            if isinstance(node, ast.ClassDef):
                self.assertEqual((node.decorator_list, node.keywords), ([], []), where)
                self.assertLessEqual(len(node.bases), 1, where)
                for row in node.body:
                    self.assertIsInstance(row, (ast.FunctionDef, ast.Pass), where)

    def test_imports(self):
        drawn = {}
        for name, tree in self.trees.items():
            drawn[name] = []
            for row in own_imports(tree):
                where = f"{name}:{row.lineno}"
                self.assertIsInstance(row, ast.ImportFrom, where)
                self.assertIn(row, tree.body, where)
                self.assertEqual(row.level, 0, where)
                self.assertRegex(row.module, r"^boxsums\.[a-z_]+$", where)
                source = row.module.split(".")[1] + ".py"
                drawn[name].extend([source, "__init__.py"])
                for alias in row.names:
                    self.assertIn(alias.name, top_names(self.trees[source]), where)
        for name in drawn:
            reached = list(drawn[name])
            for other in reached:
                reached.extend(more for more in drawn[other] if more not in reached)
            self.assertNotIn(name, reached)

    def test_names(self):
        for node, where in self.nodes():
            names = []
            if isinstance(node, ast.Name):
                names = [node.id]
            elif isinstance(node, ast.arg):
                names = [node.arg]
            elif isinstance(node, ast.Attribute):
                names = [node.attr]
            elif isinstance(node, (ast.FunctionDef, ast.ClassDef)):
                names = [node.name]
            for name in names:
                if name not in DUNDERS:
                    self.assertRegex(name, r"^[A-Za-z][A-Za-z0-9_]*$", where)
                self.assertNotIn(name, UNUSED, where)
            if isinstance(node, ast.Name) and node.id in dir(builtins):
                self.assertIn(node.id, OWN_NAMES, where)
                self.assertIsInstance(node.ctx, ast.Load, where)
            if isinstance(node, ast.arg):
                self.assertNotIn(node.arg, dir(builtins), where)

    def test_each_name_once_and_no_local_like_another_meaning(self):
        for name, tree in self.trees.items():
            tops = top_names(tree)
            self.assertEqual(len(tops), len(set(tops)), name)
            drawn = [alias.name for row in own_imports(tree) for alias in row.names]
            self.assertEqual(len(tops + drawn), len(set(tops + drawn)), name)
            for node in ast.walk(tree):
                if isinstance(node, ast.FunctionDef):
                    taken = set(local_names(node)) & set(tops + drawn)
                    self.assertEqual(taken, set(), f"{name}:{node.lineno}")
            used = {node.id for node in ast.walk(tree) if isinstance(node, ast.Name)}
            self.assertEqual(set(drawn) - used, set(), name)

    def test_methods_and_calls(self):
        own = {node.name for node, where in self.nodes() if isinstance(node, ast.FunctionDef)}
        for node, where in self.nodes():
            if isinstance(node, ast.Call) and isinstance(node.func, ast.Attribute):
                self.assertIn(node.func.attr, OWN_METHODS | own | set(DUNDERS), where)
            if isinstance(node, ast.Compare):
                for op, side in zip(node.ops, node.comparators):
                    if isinstance(op, (ast.Is, ast.IsNot)):
                        self.assertIsInstance(side, ast.Constant, where)
                        self.assertIn(side.value, (None, True, False), where)
            if isinstance(node, ast.Assign) and isinstance(node.value, ast.Call):
                if isinstance(node.value.func, ast.Name):
                    self.assertNotIn(node.value.func.id, WALKED + ("set",), where)

    def test_values_of_objects(self):
        methods = {row.name for node, where in self.nodes() if isinstance(node, ast.ClassDef)
                   for row in node.body if isinstance(row, ast.FunctionDef)}
        pythons = {name for kind in (str, int, list, tuple, dict, set, bytes) for name in dir(kind)}
        self.assertEqual((methods - set(DUNDERS)) & pythons, set())
        for node, where in self.nodes():
            if isinstance(node, ast.Attribute) and isinstance(node.ctx, ast.Store):
                self.assertIsInstance(node.value, ast.Name, where)
                self.assertNotIn(node.attr, methods | pythons | {"args"}, where)

    def test_texts(self):
        for node, where in self.nodes():
            if isinstance(node, ast.Constant) and isinstance(node.value, str):
                self.assertNotIn("%", node.value, where)
            if isinstance(node, ast.FormattedValue):
                self.assertIsInstance(node.value, ast.Name, where)
                self.assertIsNone(node.format_spec, where)

    def test_errors_taken_and_raised(self):
        own = {row.name for tree in self.trees.values() for row in tree.body if isinstance(row, ast.ClassDef)}
        for node, where in self.nodes():
            if isinstance(node, ast.ExceptHandler):
                self.assertIsInstance(node.type, ast.Name, where)
                self.assertIn(node.type.id, own | {"KeyError", "ZeroDivisionError", "StopIteration"}, where)
            if isinstance(node, ast.Raise):
                self.assertIsInstance(node.exc, ast.Call, where)
                self.assertIn(node.exc.func.id, own, where)

    def test_lists_and_dicts_of_a_top_are_only_read(self):
        for name, tree in self.trees.items():
            tops = [row for row in tree.body if isinstance(row, ast.Assign)]
            kept = {row.targets[0].id for row in tops if isinstance(row.value, (ast.List, ast.Dict))}
            for row in tops:
                for part in ast.walk(row.value):
                    if part is not row.value:
                        self.assertNotIsInstance(part, (ast.List, ast.Dict, ast.Set, ast.Call), name)
            read = []
            for node in ast.walk(tree):
                if isinstance(node, ast.Subscript) and isinstance(node.ctx, ast.Load):
                    read.append(node.value)
                if isinstance(node, ast.Compare):
                    read.extend(node.comparators)
            for node in ast.walk(tree):
                if isinstance(node, ast.Name) and isinstance(node.ctx, ast.Load) and node.id in kept:
                    self.assertIn(node, read, f"{name}:{node.lineno}")
