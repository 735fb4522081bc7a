"""Holds the package against the rules of its language that can be seen file by file."""

import ast
import builtins
import pathlib
import re
import unittest

PACKAGE = pathlib.Path(__file__).resolve().parent.parent / "fewbends"

STATEMENTS = (
    ast.Module, ast.FunctionDef, ast.ClassDef, ast.ImportFrom, ast.Assign, ast.AugAssign,
    ast.If, ast.While, ast.For, ast.Return, ast.Break, ast.Continue, ast.Pass, ast.Raise,
    ast.Try, ast.ExceptHandler, ast.Expr,
)
EXPRESSIONS = (
    ast.Constant, ast.Name, ast.List, ast.Tuple, ast.Dict, ast.Set, ast.BinOp, ast.UnaryOp,
    ast.BoolOp, ast.Compare, ast.IfExp, ast.Call, ast.Attribute, ast.Subscript, ast.Slice,
    ast.ListComp, ast.comprehension, ast.JoinedStr, ast.FormattedValue, ast.Lambda,
    ast.arguments, ast.arg, ast.keyword, ast.alias, ast.operator, ast.unaryop, ast.boolop,
    ast.cmpop, ast.expr_context,
)
OWN_NAMES = set(
    "len range enumerate zip min max sum abs sorted reversed int str bool list tuple dict set "
    "frozenset isinstance ord repr any all divmod Exception ValueError KeyError IndexError "
    "LookupError ZeroDivisionError ArithmeticError OverflowError RuntimeError "
    "NotImplementedError StopIteration".split()
)
METHODS = set(
    "append clear copy count endswith extend find get index insert isalnum isalpha isdigit "
    "islower isspace isupper items join keys ljust lower lstrip partition pop remove replace "
    "reverse rfind rjust rpartition rsplit rstrip setdefault split splitlines startswith strip "
    "update upper values zfill bit_length".split()
)
CHANGES = set("append clear extend insert pop remove reverse setdefault update".split())
OUT = re.compile(
    r"\b(type|typing|typing_extensions|enum|Enum|IntEnum|StrEnum|Flag|IntFlag|Generic|Protocol|ABC"
    r"|ABCMeta|namedtuple|NamedTuple|TypedDict|TYPE_CHECKING|abstractmethod)\b"
    r"|dataclass|overload|contextmanager"
)


def files():
    return sorted(path for path in PACKAGE.iterdir() if path.name != "__pycache__")


def trees():
    return [(path.name, ast.parse(path.read_text())) for path in files()]


def walked_by(walk):
    """What a loop walks, itself or through enumerate, zip, reversed and items."""
    if isinstance(walk, ast.Call):
        if isinstance(walk.func, ast.Name) and walk.func.id in ("enumerate", "zip", "reversed"):
            return [part for one in walk.args for part in walked_by(one)]
        if isinstance(walk.func, ast.Attribute):
            return walked_by(walk.func.value)
    return [walk] if isinstance(walk, (ast.Name, ast.Attribute, ast.Subscript)) else []


def changed_in(statement):
    changed = set()
    for node in ast.walk(statement):
        if isinstance(node, ast.Subscript) and isinstance(node.ctx, ast.Store):
            changed.add(ast.dump(node.value))
        if isinstance(node, ast.Call) and isinstance(node.func, ast.Attribute) and node.func.attr in CHANGES:
            changed.add(ast.dump(node.func.value))
    return changed


class Language(unittest.TestCase):
    def test_files_and_signs(self):
        for path in files():
            self.assertRegex(path.name, r"^(__init__|[a-z][a-z0-9_]*)\.py$")
            text = path.read_text()
            self.assertRegex(text, r"^[ -~\n]*$")
            self.assertIsNone(OUT.search(text), path.name)
            self.assertLessEqual(len(text.splitlines()), 400)
            self.assertLessEqual(max(len(row) for row in text.splitlines()), 120)

    def test_functions_are_small_and_plain(self):
        for name, tree in trees():
            for node in ast.walk(tree):
                if isinstance(node, ast.FunctionDef):
                    self.assertLessEqual(node.end_lineno - node.lineno + 1, 40, (name, node.name))
                    self.assertEqual(node.decorator_list, [])
                    told = node.args
                    self.assertFalse(told.vararg or told.kwarg or told.kwonlyargs)

    def test_only_these_forms_stand_there(self):
        for name, tree in trees():
            for node in ast.walk(tree):
                self.assertIsInstance(node, STATEMENTS + EXPRESSIONS, (name, vars(node)))
                if isinstance(node, ast.Assign):
                    self.assertEqual(len(node.targets), 1)
                    self.assertIsInstance(node.targets[0], (ast.Name, ast.Attribute, ast.Subscript), name)
                if isinstance(node, (ast.For, ast.While)):
                    self.assertEqual(node.orelse, [])
                if isinstance(node, ast.ListComp):
                    self.assertEqual(len(node.generators), 1)
                if isinstance(node, ast.BinOp):
                    self.assertNotIsInstance(node.op, (ast.Div, ast.MatMult))
                if isinstance(node, ast.Constant):
                    self.assertIsInstance(node.value, (int, str, bool, None.__class__))

    def test_imports_come_from_the_package_alone(self):
        for name, tree in trees():
            for node in ast.walk(tree):
                if isinstance(node, ast.ImportFrom):
                    self.assertIn(node, tree.body)
                    self.assertRegex(node.module, r"^fewbends\.[a-z]+$")
                    self.assertEqual(node.level, 0)
                    self.assertFalse([one for one in node.names if one.asname or one.name == "*"])

    def test_names_of_pythons_own(self):
        for name, tree in trees():
            for node in ast.walk(tree):
                if isinstance(node, ast.Name) and hasattr(builtins, node.id):
                    self.assertIn(node.id, OWN_NAMES, name)
                    self.assertIsInstance(node.ctx, ast.Load)
                if isinstance(node, ast.arg):
                    self.assertFalse(hasattr(builtins, node.arg), (name, node.arg))
                if isinstance(node, (ast.Name, ast.arg)):
                    self.assertFalse(getattr(node, "id", getattr(node, "arg", "")).startswith("_"))

    def test_no_local_is_called_like_an_import_or_class(self):
        for name, tree in trees():
            taken = {node.name for node in tree.body if isinstance(node, ast.ClassDef)}
            for node in tree.body:
                if isinstance(node, ast.ImportFrom):
                    taken |= {one.name for one in node.names}
            for node in ast.walk(tree):
                if isinstance(node, ast.Name) and isinstance(node.ctx, ast.Store):
                    self.assertNotIn(node.id, taken, name)
                if isinstance(node, ast.arg):
                    self.assertNotIn(node.arg, taken, name)

    def test_each_name_is_bound_once_at_a_files_top(self):
        for name, tree in trees():
            bound = []
            for node in tree.body:
                if isinstance(node, (ast.FunctionDef, ast.ClassDef)):
                    bound.append(node.name)
                if isinstance(node, ast.Assign):
                    bound.extend(target.id for target in node.targets)
                if isinstance(node, ast.ImportFrom):
                    bound.extend(one.name for one in node.names)
            self.assertEqual(sorted(bound), sorted(set(bound)), name)

    def test_methods(self):
        own = {
            part.name
            for name, tree in trees()
            for node in ast.walk(tree) if isinstance(node, ast.ClassDef)
            for part in node.body if isinstance(part, ast.FunctionDef)
        }
        for name, tree in trees():
            for node in ast.walk(tree):
                if isinstance(node, ast.Call) and isinstance(node.func, ast.Attribute):
                    self.assertIn(node.func.attr, METHODS | own, name)

    def test_what_a_loop_walks_is_not_changed_in_it(self):
        for name, tree in trees():
            for node in ast.walk(tree):
                if isinstance(node, ast.For):
                    walked = {ast.dump(part) for part in walked_by(node.iter)}
                    for part in node.body:
                        self.assertFalse(walked & changed_in(part), (name, node.lineno))

    def test_values_of_objects(self):
        methods = set()
        values = set()
        for name, tree in trees():
            for node in ast.walk(tree):
                if isinstance(node, ast.ClassDef):
                    methods |= {part.name for part in node.body if isinstance(part, ast.FunctionDef)}
                if isinstance(node, ast.Attribute) and isinstance(node.ctx, ast.Store):
                    values.add(node.attr)
        self.assertFalse(values & methods)
        for kind in [str, int, list, dict, set, bytes]:
            self.assertFalse(values & set(dir(kind)))

    def test_no_two_files_draw_from_one_another(self):
        drawn = {}
        for name, tree in trees():
            rows = [node for node in tree.body if isinstance(node, ast.ImportFrom)]
            drawn[name[:-3]] = {row.module.split(".")[1] for row in rows}
            for row in rows:
                source = ast.parse((PACKAGE / (row.module.split(".")[1] + ".py")).read_text())
                own = {node.name for node in source.body if isinstance(node, (ast.FunctionDef, ast.ClassDef))}
                own |= {node.targets[0].id for node in source.body if isinstance(node, ast.Assign)}
                self.assertLessEqual({one.name for one in row.names}, own, name)
        while drawn:
            ready = [name for name in drawn if not drawn[name] & set(drawn)]
            self.assertTrue(ready, drawn)
            drawn = {name: drawn[name] for name in drawn if name not in ready}

    def test_is_stands_beside_none_true_and_false_alone(self):
        for name, tree in trees():
            for node in ast.walk(tree):
                if isinstance(node, ast.Compare):
                    for sign, side in zip(node.ops, node.comparators):
                        if isinstance(sign, (ast.Is, ast.IsNot)):
                            self.assertIsInstance(side, ast.Constant, name)
                            self.assertIn(side.value, (None, True, False), name)


if __name__ == "__main__":
    unittest.main()
