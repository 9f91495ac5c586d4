"""The package's own files keep to the part of Python that it is written in: what of those rules can be seen by machine."""

import ast
import builtins
import pathlib
import re
import unittest

PACKAGE = pathlib.Path(__file__).resolve().parent.parent / "lentstretch"

STATEMENTS = (
    ast.Assign, ast.AugAssign, ast.If, ast.While, ast.For, ast.Return, ast.Break, ast.Continue, ast.Pass, ast.Expr,
    ast.FunctionDef, ast.ClassDef, ast.ImportFrom,
)
EXPRESSIONS = (
    ast.Constant, ast.Name, ast.List, ast.Tuple, ast.Dict, ast.BinOp, ast.UnaryOp, ast.BoolOp, ast.Compare, ast.IfExp,
    ast.Call, ast.Attribute, ast.Subscript, ast.Slice, ast.ListComp, ast.Lambda,
)
OWN_NAMES = (
    "len range enumerate zip min max sum abs sorted reversed int str bool list tuple dict set frozenset isinstance ord "
    "repr any all divmod True False None"
).split()
METHODS = (
    "append clear copy count endswith extend find get index insert isalnum isalpha isdigit islower isspace isupper items "
    "join keys ljust lower lstrip partition pop remove replace reverse rfind rjust rpartition rsplit rstrip setdefault "
    "split splitlines startswith strip update upper values zfill bit_length"
).split()
WORDS = (
    "type typing typing_extensions enum Enum IntEnum StrEnum Flag IntFlag Generic Protocol ABC ABCMeta namedtuple "
    "NamedTuple TypedDict TYPE_CHECKING abstractmethod"
).split()
VALUE_NAMES = "count index title find get join lower upper split strip copy add".split()
PYTHONS = {name for kind in (str, int, list, dict, set, bytes, tuple) for name in dir(kind)}


def source(path):
    return path.read_text(encoding="utf-8")


def files():
    return sorted(PACKAGE.glob("*.py"))


def trees():
    return [(path.name, ast.parse(source(path))) for path in files()]


def walked(*kinds):
    for name, tree in trees():
        for node in ast.walk(tree):
            if isinstance(node, kinds):
                yield f"{name}:{getattr(node, 'lineno', 0)}", node


def is_plain(node, functions):
    if isinstance(node, ast.UnaryOp) and isinstance(node.op, ast.USub):
        node = node.operand
    if isinstance(node, ast.Constant):
        return node.value is None or type(node.value) in (int, str, bool)
    if isinstance(node, (ast.List, ast.Tuple)):
        return all(is_plain(one, functions) for one in node.elts)
    if isinstance(node, ast.Dict):
        return all(is_plain(one, functions) for one in node.keys + node.values)
    return isinstance(node, ast.Name) and node.id in functions


class Files(unittest.TestCase):
    def test_nothing_but_plain_files(self):
        for path in PACKAGE.iterdir():
            if path.name != "__pycache__":
                self.assertRegex(path.name, r"^([a-z][a-z0-9_]*|__init__|__main__)\.py$")
                self.assertFalse(path.stem in dir(builtins) or path.stem.startswith("test"), path.name)

    def test_sizes_and_signs(self):
        for path in files():
            lines = source(path).split("\n")
            self.assertLessEqual(len(lines), 400, path.name)
            for line in lines:
                self.assertLessEqual(len(line), 120, (path.name, line))
                self.assertTrue(all(" " <= sign <= "~" for sign in line), (path.name, line))
        for where, node in walked(ast.FunctionDef):
            self.assertLessEqual(node.end_lineno - node.lineno + 1, 40, where)

    def test_words_that_stand_nowhere(self):
        for path in files():
            for word in re.findall(r"\w+", source(path)):
                self.assertNotIn(word, WORDS, path.name)
                self.assertIsNone(re.search("dataclass|overload|contextmanager", word), path.name)


class Tops(unittest.TestCase):
    def test_imports(self):
        drawn = {}
        for name, tree in trees():
            froms = [node for node in ast.walk(tree) if isinstance(node, (ast.Import, ast.ImportFrom))]
            drawn[name] = [node.module.split(".")[1] + ".py" for node in froms]
            for node in froms:
                self.assertIn(node, tree.body, name)
                self.assertRegex(node.module, r"^lentstretch\.[a-z_]+$")
                other = ast.parse(source(PACKAGE / (node.module.split(".")[1] + ".py")))
                bound = [one.name for one in other.body if isinstance(one, (ast.FunctionDef, ast.ClassDef))]
                bound += [one.targets[0].id for one in other.body if isinstance(one, ast.Assign)]
                for alias in node.names:
                    self.assertIn(alias.name, bound, name)
                    self.assertIsNone(alias.asname, name)
        while drawn:
            leaves = [name for name in drawn if not set(drawn[name]) & set(drawn)]
            self.assertTrue(leaves, f"these draw from one another: {sorted(drawn)}")
            drawn = {name: drawn[name] for name in drawn if name not in leaves}

    def test_every_import_is_used(self):
        for name, tree in trees():
            used = {node.id for node in ast.walk(tree) if isinstance(node, ast.Name)}
            for node in tree.body:
                if isinstance(node, ast.ImportFrom):
                    self.assertEqual([alias.name for alias in node.names if alias.name not in used], [], name)

    def test_plain_values_bound_once(self):
        for name, tree in trees():
            self.assertTrue(ast.get_docstring(tree), name)
            functions = [node.name for node in tree.body if isinstance(node, ast.FunctionDef)]
            bound = []
            for node in tree.body[1:]:
                self.assertIsInstance(node, (ast.ImportFrom, ast.FunctionDef, ast.ClassDef, ast.Assign), name)
                if isinstance(node, ast.Assign):
                    self.assertTrue(is_plain(node.value, functions), (name, node.lineno))
                    bound.append(node.targets[0].id)
                    if isinstance(node.value, (ast.List, ast.Dict)):
                        within = [one for one in ast.walk(node.value) if isinstance(one, (ast.List, ast.Dict))]
                        self.assertEqual(within, [node.value], name)
                elif isinstance(node, ast.ImportFrom):
                    bound.extend(alias.name for alias in node.names)
                else:
                    bound.append(node.name)
            self.assertEqual(len(bound), len(set(bound)), name)


class Forms(unittest.TestCase):
    def test_statements(self):
        for where, node in walked(ast.stmt):
            self.assertIsInstance(node, STATEMENTS, where)
            if isinstance(node, ast.Assign):
                self.assertEqual(len(node.targets), 1, where)
            if isinstance(node, (ast.For, ast.While)):
                self.assertEqual(node.orelse, [], where)
        for name, tree in trees():
            for node in ast.walk(tree):
                if isinstance(node, ast.Expr) and node is not tree.body[0]:
                    self.assertIsInstance(node.value, ast.Call, (name, node.lineno))

    def test_expressions(self):
        for where, node in walked(ast.expr):
            self.assertIsInstance(node, EXPRESSIONS, where)
            if isinstance(node, ast.Constant):
                self.assertIn(type(node.value), (int, str, bool, type(None)), where)
            if isinstance(node, ast.BinOp):
                self.assertNotIsInstance(node.op, (ast.Div, ast.MatMult, ast.Pow), where)
            if isinstance(node, ast.Compare) and any(isinstance(op, (ast.Is, ast.IsNot)) for op in node.ops):
                self.assertTrue(isinstance(node.comparators[0], ast.Constant), where)
            if isinstance(node, ast.ListComp):
                self.assertEqual(len(node.generators), 1, where)
                self.assertLessEqual(len(node.generators[0].ifs), 1, where)

    def test_functions_and_classes(self):
        for where, node in walked(ast.FunctionDef, ast.ClassDef):
            self.assertEqual(node.decorator_list, [], where)
            if isinstance(node, ast.ClassDef):
                self.assertTrue(all(isinstance(one, ast.FunctionDef) for one in node.body), where)
            else:
                given = node.args
                self.assertFalse(given.vararg or given.kwarg or given.kwonlyargs or given.posonlyargs, where)
                self.assertTrue(all(one.annotation is None for one in given.args) and node.returns is None, where)

    def test_what_is_walked_is_walked_on_the_spot(self):
        for name, tree in trees():
            spots = []
            for node in ast.walk(tree):
                if isinstance(node, (ast.For, ast.comprehension)):
                    spots.append(node.iter)
                if isinstance(node, ast.Call) and isinstance(node.func, ast.Name) and node.args:
                    if node.func.id in "list tuple dict sorted sum any all enumerate zip min max".split():
                        spots.append(node.args[0])
            for node in ast.walk(tree):
                if isinstance(node, ast.Call):
                    called = getattr(node.func, "id", getattr(node.func, "attr", ""))
                    if called in "zip enumerate reversed range items keys values set".split():
                        self.assertIn(node, spots, (name, node.lineno))


class Names(unittest.TestCase):
    def test_names(self):
        for name, tree in trees():
            top = {alias.name for node in tree.body if isinstance(node, ast.ImportFrom) for alias in node.names}
            top |= {node.name for node in tree.body if isinstance(node, ast.ClassDef)}
            stored = [node.id for node in ast.walk(tree) if isinstance(node, ast.Name) and isinstance(node.ctx, ast.Store)]
            stored += [node.arg for node in ast.walk(tree) if isinstance(node, ast.arg)]
            for one in stored:
                self.assertRegex(one, "^[A-Za-z][A-Za-z0-9_]*$", name)
                self.assertNotIn(one, dir(builtins), name)
                self.assertNotIn(one, top, name)
            for node in ast.walk(tree):
                if isinstance(node, ast.Name) and node.id in dir(builtins):
                    self.assertIn(node.id, OWN_NAMES, (name, node.lineno))

    def test_methods_and_values(self):
        methods = {one.name for _, node in walked(ast.ClassDef) for one in node.body}
        stored = {node.attr for _, node in walked(ast.Attribute) if isinstance(node.ctx, ast.Store)}
        self.assertEqual(methods & stored, set())
        self.assertEqual({one for one in stored if one in PYTHONS and one not in VALUE_NAMES}, set())
        self.assertEqual({one for one in methods if one in PYTHONS and one != "__init__"}, set())
        for where, node in walked(ast.Call):
            if isinstance(node.func, ast.Attribute):
                self.assertTrue(node.func.attr in METHODS or node.func.attr in methods, (where, node.func.attr))


if __name__ == "__main__":
    unittest.main()
