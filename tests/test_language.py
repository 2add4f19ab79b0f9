"""Those rules of the language part that a look at the package's files can see."""

import ast
import builtins
import re
import unittest
from pathlib import Path

PACKAGE = Path(__file__).resolve().parent.parent / "twoforone"
FILES = sorted(PACKAGE.rglob("*.py"))

OWN_NAMES = set(
    "len range enumerate zip min max sum abs sorted reversed int str bool list tuple dict set frozenset isinstance ord "
    "repr any all divmod Exception ValueError TypeError KeyError IndexError LookupError ZeroDivisionError "
    "ArithmeticError OverflowError RuntimeError NotImplementedError AttributeError StopIteration".split())
WALKED = ("zip", "enumerate", "reversed", "range")
WALKED_METHODS = ("items", "keys", "values")
WALKERS = ("list", "tuple", "dict", "sorted", "sum", "any", "all", "enumerate", "zip", "min", "max")
METHODS = set(
    "append clear copy count endswith extend find get index insert isalnum isalpha isdigit islower isspace isupper "
    "items join keys ljust lower lstrip partition pop remove replace reverse rfind rjust rpartition rsplit rstrip "
    "setdefault split splitlines startswith strip update upper values zfill bit_length".split())
UNUSED_WORDS = (
    "type typing typing_extensions enum Enum IntEnum StrEnum Flag IntFlag Generic Protocol ABC ABCMeta namedtuple "
    "NamedTuple TypedDict TYPE_CHECKING abstractmethod").split()
UNUSED_PARTS = ("dataclass", "overload", "contextmanager")
UNDERSCORED = ("__init__", "__eq__", "__repr__", "__str__", "__len__", "__all__", "__version__")
NODES = (
    ast.Module, ast.Expr, ast.ImportFrom, ast.alias, ast.FunctionDef, ast.ClassDef, ast.arguments, ast.arg, ast.Return,
    ast.Assign, ast.AugAssign, ast.If, ast.While, ast.For, ast.Break, ast.Continue, ast.Pass, ast.Raise, ast.Try,
    ast.ExceptHandler, ast.Call, ast.keyword, ast.Name, ast.Attribute, ast.Subscript, ast.Slice, ast.Constant,
    ast.List, ast.Tuple, ast.Dict, ast.ListComp, ast.comprehension, ast.Compare, ast.cmpop, ast.BoolOp, ast.boolop,
    ast.UnaryOp, ast.unaryop, ast.BinOp, ast.operator, ast.IfExp, ast.Lambda, ast.JoinedStr, ast.FormattedValue,
    ast.expr_context)


def defined_in(tree):
    return {node.name for node in tree.body if isinstance(node, (ast.FunctionDef, ast.ClassDef))}


def is_call_of(node, names, methods=()):
    if not isinstance(node, ast.Call):
        return False
    if isinstance(node.func, ast.Attribute):
        return node.func.attr in methods
    return isinstance(node.func, ast.Name) and node.func.id in names


def is_plain(node):
    if isinstance(node, (ast.Tuple, ast.List)):
        return all(is_plain(part) for part in node.elts)
    if isinstance(node, ast.Dict):
        return all(is_plain(part) and not isinstance(part, (ast.List, ast.Dict)) for part in node.keys + node.values)
    return isinstance(node, ast.Constant)


class Language(unittest.TestCase):
    def nodes(self, *kinds):
        for path in FILES:
            for node in ast.walk(ast.parse(path.read_text("utf-8"))):
                if isinstance(node, kinds):
                    yield f"{path.name}:{getattr(node, 'lineno', 0)}", node

    def test_the_package_holds_plain_files_alone(self):
        self.assertIn(PACKAGE / "__init__.py", FILES)
        for path in PACKAGE.iterdir():
            if path.name != "__pycache__":
                self.assertRegex(path.name, r"\A([a-z][a-z0-9_]*|__init__|__main__)\.py\Z")

    def test_signs_and_sizes(self):
        for path in FILES:
            text = path.read_bytes().decode("ascii")
            self.assertRegex(text, r"\A[\n -~]*\Z", path.name)
            rows = text.split("\n")
            self.assertLessEqual(len(rows), 401, path.name)
            self.assertLessEqual(max(len(row) for row in rows), 120, path.name)

    def test_words_that_stand_nowhere(self):
        for path in FILES:
            text = path.read_text("utf-8")
            words = set(re.findall(r"\w+", text))
            self.assertEqual(words.intersection(UNUSED_WORDS), set(), path.name)
            self.assertEqual([part for part in UNUSED_PARTS if part in text], [], path.name)

    def test_forms_that_are_allowed(self):
        for where, node in self.nodes(ast.AST):
            self.assertIsInstance(node, NODES, where)
            self.assertNotIsInstance(node, (ast.Div, ast.MatMult), where)

    def test_statements(self):
        for where, node in self.nodes(ast.Assign):
            self.assertEqual(len(node.targets), 1, where)
            self.assertNotIsInstance(node.targets[0], (ast.Tuple, ast.List), where)
        for where, node in self.nodes(ast.For, ast.While):
            self.assertEqual(node.orelse, [], where)
        for where, node in self.nodes(ast.Try):
            self.assertEqual(node.finalbody, [], where)
        for where, node in self.nodes(ast.ListComp):
            self.assertEqual(len(node.generators), 1, where)
            self.assertLessEqual(len(node.generators[0].ifs), 1, where)

    def test_a_row_by_itself_is_a_call_or_the_docstring_of_a_file(self):
        for path in FILES:
            tree = ast.parse(path.read_text("utf-8"))
            self.assertTrue(ast.get_docstring(tree), path.name)
            for node in ast.walk(tree):
                if isinstance(node, ast.Expr) and node != tree.body[0]:
                    self.assertIsInstance(node.value, ast.Call, f"{path.name}:{node.lineno}")

    def test_imports_come_from_the_file_that_defines_the_name(self):
        drawn = {}
        for path in FILES:
            tree = ast.parse(path.read_text("utf-8"))
            drawn[path.stem] = set()
            for node in ast.walk(tree):
                if isinstance(node, ast.ImportFrom):
                    self.assertIn(node, tree.body)
                    self.assertEqual((node.level, node.module.split(".")[0]), (0, "twoforone"))
                    source = PACKAGE / (node.module.split(".")[1] + ".py")
                    source_tree = ast.parse(source.read_text("utf-8"))
                    constants = {
                        row.targets[0].id for row in source_tree.body if isinstance(row, ast.Assign)}
                    for name in node.names:
                        self.assertIn(name.name, defined_in(source_tree) | constants)
                    drawn[path.stem].add(source.stem)
        while drawn:
            ends = [stem for stem in drawn if not drawn[stem].intersection(drawn)]
            self.assertTrue(ends, "files draw from one another")
            for stem in ends:
                drawn.pop(stem)

    def test_the_top_of_a_file(self):
        for path in FILES:
            tree = ast.parse(path.read_text("utf-8"))
            bound = [name.name for row in tree.body if isinstance(row, ast.ImportFrom) for name in row.names]
            for row in tree.body[1:]:
                where = f"{path.name}:{row.lineno}"
                self.assertIsInstance(row, (ast.ImportFrom, ast.FunctionDef, ast.ClassDef, ast.Assign), where)
                if isinstance(row, ast.Assign):
                    self.assertTrue(is_plain(row.value), where)
                    bound.append(row.targets[0].id)
                elif not isinstance(row, ast.ImportFrom):
                    bound.append(row.name)
            self.assertEqual(len(bound), len(set(bound)), path.name)

    def test_locals_are_not_called_like_classes_or_imports(self):
        for path in FILES:
            tree = ast.parse(path.read_text("utf-8"))
            taken = {node.name for node in tree.body if isinstance(node, ast.ClassDef)}
            taken.update(name.name for row in tree.body if isinstance(row, ast.ImportFrom) for name in row.names)
            for node in ast.walk(tree):
                if isinstance(node, ast.arg):
                    self.assertNotIn(node.arg, taken, f"{path.name}:{node.lineno}")
                if isinstance(node, ast.Name) and isinstance(node.ctx, ast.Store):
                    self.assertNotIn(node.id, taken, f"{path.name}:{node.lineno}")

    def test_imports_are_used(self):
        for path in FILES:
            tree = ast.parse(path.read_text("utf-8"))
            used = {node.id for node in ast.walk(tree) if isinstance(node, ast.Name)}
            for row in tree.body:
                if isinstance(row, ast.ImportFrom):
                    self.assertEqual([name.name for name in row.names if name.name not in used], [], path.name)

    def test_walked_on_the_spot(self):
        on_the_spot = set()
        for _, node in self.nodes(ast.For, ast.comprehension):
            on_the_spot.add(ast.dump(node.iter, include_attributes=True))
        for _, node in self.nodes(ast.Call):
            if is_call_of(node, WALKERS, ("join",)):
                on_the_spot.update(ast.dump(given, include_attributes=True) for given in node.args)
        for where, node in self.nodes(ast.Call):
            if is_call_of(node, WALKED, WALKED_METHODS):
                self.assertIn(ast.dump(node, include_attributes=True), on_the_spot, where)

    def test_sets_are_neither_kept_nor_walked(self):
        kept = 0
        for path in FILES:
            tree = ast.parse(path.read_text("utf-8"))
            for node in ast.walk(tree):
                if is_call_of(node, ("sorted", "len")) or isinstance(node, ast.Compare):
                    kept -= sum(is_call_of(given, ("set", "frozenset")) for given in ast.iter_child_nodes(node))
                kept += is_call_of(node, ("set", "frozenset"))
        self.assertEqual(kept, 0)

    def test_keywords(self):
        allowed = {"sorted": ("key", "reverse"), "min": ("key", "default"), "max": ("key", "default"),
                   "sum": ("start",), "enumerate": ("start",), "zip": ("strict",)}
        for where, node in self.nodes(ast.Call):
            for given in node.keywords:
                self.assertIsInstance(node.func, ast.Name, where)
                self.assertIn(given.arg, allowed.get(node.func.id, ()), where)

    def test_functions(self):
        for where, node in self.nodes(ast.FunctionDef):
            self.assertLessEqual(node.end_lineno - node.lineno + 1, 40, where)
            self.assertEqual(node.decorator_list, [], where)
            given = node.args
            self.assertEqual((given.vararg, given.kwarg, given.kwonlyargs, given.posonlyargs), (None, None, [], []))

    def test_classes(self):
        for where, node in self.nodes(ast.ClassDef):
            self.assertLessEqual(len(node.bases), 1, where)
            self.assertEqual((node.decorator_list, node.keywords), ([], []), where)
            for row in node.body:
                self.assertIsInstance(row, (ast.FunctionDef, ast.Pass), where)

    def test_names(self):
        theirs = set(dir(builtins))
        for where, node in self.nodes(ast.Name, ast.arg, ast.FunctionDef, ast.ClassDef, ast.Attribute):
            fields = [field for field in ("id", "arg", "name", "attr") if hasattr(node, field)]
            name = getattr(node, fields[0])
            self.assertTrue(name in UNDERSCORED or re.fullmatch(r"[A-Za-z][A-Za-z0-9_]*", name), where)
            if isinstance(node, ast.Name) and isinstance(node.ctx, ast.Load):
                self.assertTrue(name not in theirs or name in OWN_NAMES, f"{where} {name}")
            elif not isinstance(node, ast.Attribute):
                self.assertNotIn(name, theirs, where)

    def test_methods(self):
        own = {node.name for _, node in self.nodes(ast.FunctionDef)}
        for where, node in self.nodes(ast.Call):
            if isinstance(node.func, ast.Attribute):
                self.assertIn(node.func.attr, METHODS | own, where)

    def test_values(self):
        for where, node in self.nodes(ast.Constant):
            self.assertIsInstance(node.value, (int, str, type(None)), where)
            if isinstance(node.value, str):
                self.assertNotIn("%", node.value, where)
        for where, node in self.nodes(ast.BinOp):
            if isinstance(node.op, ast.Pow):
                self.assertIsInstance(node.right, ast.Constant, where)
                self.assertIn(node.right.value, range(65), where)
        for where, node in self.nodes(ast.Compare):
            for at, sign in enumerate(node.ops):
                if isinstance(sign, (ast.Is, ast.IsNot)):
                    sides = ([node.left] + node.comparators)[at:at + 2]
                    plain = [side for side in sides if isinstance(side, ast.Constant)]
                    self.assertTrue([side for side in plain if side.value in (None, True, False)], where)


if __name__ == "__main__":
    unittest.main()
