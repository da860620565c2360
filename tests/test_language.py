"""The package keeps to its small part of Python: what of the rules L1 to L28 a walk over its files can see."""

import ast
import builtins
import pathlib
import re
import unittest

PACKAGE = pathlib.Path(__file__).resolve().parent.parent / "copperboard"
FILES = sorted(path for path in PACKAGE.rglob("*") if path.is_file() and "__pycache__" not in path.parts)

STATEMENTS = (ast.Module, ast.FunctionDef, ast.ClassDef, ast.Return, ast.Assign, ast.AugAssign, ast.For, ast.While,
              ast.If, ast.Raise, ast.Try, ast.ImportFrom, ast.Expr, ast.Pass, ast.Break, ast.Continue)
EXPRESSIONS = (ast.BoolOp, ast.BinOp, ast.UnaryOp, ast.Lambda, ast.IfExp, ast.Dict, ast.Set, ast.ListComp, ast.Compare,
               ast.Call, ast.FormattedValue, ast.JoinedStr, ast.Constant, ast.Attribute, ast.Subscript, ast.Name,
               ast.List, ast.Tuple, ast.Slice)
OWN_NAMES = ("len range enumerate zip min max sum abs sorted reversed int str bool list tuple dict set frozenset isinstance "
             "ord repr any all divmod Exception ValueError TypeError KeyError IndexError LookupError ZeroDivisionError "
             "ArithmeticError OverflowError RuntimeError NotImplementedError AttributeError StopIteration").split()
OWN_METHODS = ("append clear copy count endswith extend find get index insert isalnum isalpha isdigit islower isspace "
               "isupper items join keys ljust lower lstrip partition pop remove replace reverse rfind rjust rpartition "
               "rsplit rstrip setdefault split splitlines startswith strip update upper values zfill bit_length").split()
CHANGING_METHODS = ("append", "clear", "extend", "insert", "pop", "remove", "reverse", "setdefault", "update")
WALKED_AT_ONCE = ("zip", "enumerate", "reversed", "range")
WALKERS = ("list", "tuple", "dict", "sorted", "sum", "any", "all", "enumerate", "zip", "min", "max")
NEVER_WRITTEN = re.compile(r"\b(type|typing|typing_extensions|enum|Enum|IntEnum|StrEnum|Flag|IntFlag|Generic|Protocol|ABC|"
                           r"ABCMeta|namedtuple|NamedTuple|TypedDict|TYPE_CHECKING|abstractmethod)\b|dataclass|overload|"
                           r"contextmanager")
NEVER_NAMED = ("register mro elements open input version_info with_traceback add_note attrgetter breakpoint builtins compile "
               "copyright credits delattr dir eval exec exit gc getattr globals hasattr help id importlib license locals "
               "methodcaller os quit setattr super vars sys chr print").split()
OF_OWN_VALUES = {name for kind in (str, int, list, dict, set, bytes) for name in dir(kind)}


def trees():
    return [(path, ast.parse(path.read_text("utf-8"))) for path in FILES]


def bound_at_top(tree):
    names = []
    for node in tree.body:
        if isinstance(node, ast.Assign):
            names.append(node.targets[0].id)
        elif isinstance(node, (ast.FunctionDef, ast.ClassDef)):
            names.append(node.name)
        elif isinstance(node, ast.ImportFrom):
            names += [alias.asname or alias.name for alias in node.names]
    return names


def bound_within(tree):
    """Parameters and locals."""
    names = set()
    for node in ast.walk(tree):
        if isinstance(node, ast.arg):
            names.add(node.arg)
    for function in [node for node in ast.walk(tree) if isinstance(node, ast.FunctionDef)]:
        names |= {node.id for node in ast.walk(function) if isinstance(node, ast.Name) and isinstance(node.ctx, ast.Store)}
    return names


def plain(node, functions):
    if isinstance(node, (ast.List, ast.Tuple)):
        return all(plain(part, functions) for part in node.elts)
    if isinstance(node, ast.Dict):
        return all(plain(part, functions) for part in node.keys + node.values)
    if isinstance(node, ast.UnaryOp):
        return isinstance(node.op, ast.USub) and isinstance(node.operand, ast.Constant)
    return isinstance(node, ast.Constant) or isinstance(node, ast.Name) and node.id in functions


class Files(unittest.TestCase):
    def test_names(self):
        self.assertIn(PACKAGE / "__init__.py", FILES)
        for path in FILES:
            self.assertRegex(path.name, r"^([a-z][a-z0-9_]*|__init__)\.py$")
            self.assertNotIn(path.stem, dir(builtins))

    def test_signs_and_sizes(self):
        for path in FILES:
            text = path.read_bytes()
            self.assertTrue(all(byte == 10 or 32 <= byte <= 126 for byte in text), path)
            lines = text.decode().splitlines()
            self.assertLessEqual(len(lines), 400, path)
            self.assertLessEqual(max(len(line) for line in lines), 120, path)
            self.assertIsNone(NEVER_WRITTEN.search(text.decode()), path)

    def test_functions_are_short(self):
        for path, tree in trees():
            for node in ast.walk(tree):
                if isinstance(node, ast.FunctionDef):
                    self.assertLessEqual(node.end_lineno - node.lineno + 1, 40, (path, node.name))
                    self.assertEqual(node.decorator_list, [])
                    self.assertFalse(node.args.vararg or node.args.kwarg or node.args.kwonlyargs)
                    self.assertIsNone(node.returns)


class Imports(unittest.TestCase):
    def test_own_files_and_no_circle(self):
        drawn = {}
        defined = {}
        for path, tree in trees():
            rows = [node for node in ast.walk(tree) if isinstance(node, (ast.Import, ast.ImportFrom))]
            self.assertTrue(all(isinstance(row, ast.ImportFrom) and row.level == 0 and row in tree.body for row in rows))
            drawn[path.stem] = [(row.module, alias) for row in rows for alias in row.names]
            defined["copperboard." + path.stem] = bound_at_top(ast.Module([
                node for node in tree.body if not isinstance(node, ast.ImportFrom)], []))
        for stem, names in drawn.items():
            for module, alias in names:
                self.assertIn(alias.name, defined[module], stem)
        self.assertEqual(drawn["__init__"], [])
        left = {stem: {module.split(".")[1] for module, alias in names} for stem, names in drawn.items()}
        while left:
            free = [stem for stem in left if not left[stem] & set(left)]
            self.assertTrue(free, left)
            left = {stem: left[stem] for stem in left if stem not in free}


class Code(unittest.TestCase):
    def test_top_of_files(self):
        for path, tree in trees():
            self.assertIsNotNone(ast.get_docstring(tree), path)
            functions = []
            for node in tree.body[1:]:
                self.assertIsInstance(node, (ast.Assign, ast.FunctionDef, ast.ClassDef, ast.ImportFrom), path)
                if isinstance(node, ast.FunctionDef):
                    functions.append(node.name)
                if isinstance(node, ast.Assign):
                    self.assertTrue(plain(node.value, functions), (path, node.lineno))
            names = bound_at_top(tree)
            self.assertEqual(len(names), len(set(names)), path)

    def test_statements_and_expressions(self):
        for path, tree in trees():
            for node in ast.walk(tree):
                where = (path.name, getattr(node, "lineno", 0), node)
                if isinstance(node, ast.stmt):
                    self.assertIsInstance(node, STATEMENTS, where)
                if isinstance(node, ast.expr):
                    self.assertIsInstance(node, EXPRESSIONS, where)
                if isinstance(node, (ast.For, ast.While)):
                    self.assertEqual(node.orelse, [], where)
                if isinstance(node, ast.Assign):
                    self.assertEqual(len(node.targets), 1, where)
                    self.assertNotIsInstance(node.targets[0], (ast.Tuple, ast.List), where)
                if isinstance(node, ast.Expr):
                    self.assertIsInstance(node.value, (ast.Call, ast.Constant), where)
                if isinstance(node, ast.ListComp):
                    self.assertEqual(len(node.generators), 1, where)
                    self.assertLessEqual(len(node.generators[0].ifs), 1, where)
                if isinstance(node, (ast.Div, ast.MatMult, ast.Pow)):
                    self.fail(where)

    def test_constants(self):
        for path, tree in trees():
            for node in ast.walk(tree):
                if isinstance(node, ast.Constant):
                    self.assertIn(type(node.value), (int, str, bool, type(None)))
                    self.assertFalse(isinstance(node.value, str) and "%" in node.value, (path, node.lineno))
                if isinstance(node, ast.Compare) and any(isinstance(op, (ast.Is, ast.IsNot)) for op in node.ops):
                    self.assertIn(node.comparators[0].value, (None, True, False))

    def test_names(self):
        for path, tree in trees():
            top = bound_at_top(tree)
            within = bound_within(tree)
            self.assertEqual(within & set(top), set(), path)
            self.assertEqual((within | set(top)) & set(dir(builtins)), set(), path)
            used = {node.id for node in ast.walk(tree) if isinstance(node, ast.Name)}
            self.assertEqual(used - within - set(top) - set(OWN_NAMES), set(), path)
            self.assertEqual((used | within | set(top)) & set(NEVER_NAMED), set(), path)
            for name in within | set(top):
                self.assertRegex(name, r"^[A-Za-z][A-Za-z0-9_]*$")

    def test_methods_and_values(self):
        values = set()
        for path, tree in trees():
            for node in ast.walk(tree):
                if isinstance(node, ast.Attribute) and isinstance(node.ctx, ast.Store):
                    values.add(node.attr)
        self.assertEqual(values & OF_OWN_VALUES, set())
        for path, tree in trees():
            for node in ast.walk(tree):
                if isinstance(node, ast.Call) and isinstance(node.func, ast.Attribute):
                    self.assertIn(node.func.attr, OWN_METHODS, (path, node.lineno))
                elif isinstance(node, ast.Attribute) and node.attr not in OWN_METHODS:
                    self.assertIn(node.attr, values, (path, node.lineno))

    def test_walked_at_once(self):
        for path, tree in trees():
            right = []
            for node in ast.walk(tree):
                if isinstance(node, (ast.For, ast.comprehension)):
                    right.append(node.iter)
                if isinstance(node, ast.Call) and isinstance(node.func, ast.Name) and node.func.id in WALKERS:
                    right += node.args
            for node in ast.walk(tree):
                if isinstance(node, ast.Call) and isinstance(node.func, ast.Name) and node.func.id in WALKED_AT_ONCE:
                    self.assertIn(node, right, (path, node.lineno))
                if isinstance(node, (ast.Set, ast.SetComp)):
                    self.fail((path, node.lineno))

    def test_walked_is_not_changed(self):
        for path, tree in trees():
            for loop in [node for node in ast.walk(tree) if isinstance(node, ast.For)]:
                walked = {node.id for node in ast.walk(loop.iter) if isinstance(node, ast.Name)}
                for node in [node for statement in loop.body for node in ast.walk(statement)]:
                    if isinstance(node, ast.Call) and isinstance(node.func, ast.Attribute):
                        if node.func.attr in CHANGING_METHODS and isinstance(node.func.value, ast.Name):
                            self.assertNotIn(node.func.value.id, walked, (path, node.lineno))
                    if isinstance(node, ast.Subscript) and isinstance(node.ctx, ast.Store):
                        changed = {part.id for part in ast.walk(node.value) if isinstance(part, ast.Name)}
                        self.assertEqual(changed & walked, set(), (path, node.lineno))

    def test_lists_and_dicts_of_the_top_are_only_read(self):
        for path, tree in trees():
            kept = {node.targets[0].id for node in tree.body if isinstance(node, ast.Assign)
                    and isinstance(node.value, (ast.List, ast.Dict))}
            for node in [node for node in tree.body if isinstance(node, ast.Assign)]:
                if isinstance(node.value, (ast.List, ast.Dict)):
                    inner = [part for part in ast.walk(node.value) if isinstance(part, (ast.List, ast.Dict))]
                    self.assertEqual(inner, [node.value], (path, node.lineno))
            right = set()
            for node in ast.walk(tree):
                if isinstance(node, ast.Subscript) and isinstance(node.ctx, ast.Load):
                    right.add(node.value)
                if isinstance(node, ast.Compare):
                    right.update(node.comparators)
            for node in ast.walk(tree):
                if isinstance(node, ast.Name) and isinstance(node.ctx, ast.Load) and node.id in kept:
                    self.assertIn(node, right, (path, node.lineno))
            drawn = {alias.name for row in tree.body if isinstance(row, ast.ImportFrom) for alias in row.names}
            self.assertEqual({name for name in drawn if name.endswith("_CALLS")}, set(), path)

    def test_errors(self):
        for path, tree in trees():
            for node in ast.walk(tree):
                self.assertNotIsInstance(node, (ast.Try, ast.Raise), path)

    def test_classes(self):
        for path, tree in trees():
            for node in ast.walk(tree):
                if isinstance(node, ast.ClassDef):
                    self.assertIn(node, tree.body)
                    self.assertLessEqual(len(node.bases), 1)
                    kinds = {type(part) for part in node.body[1:]}
                    self.assertLessEqual(kinds, {ast.FunctionDef}, (path, node.name))


if __name__ == "__main__":
    unittest.main()
