"""The package keeps to the part of Python that it is written in (rules L1 to L28, as far as a test sees them)."""

import ast
import builtins
import pathlib
import re
import unittest

PACKAGE = pathlib.Path(__file__).resolve().parent.parent / "slanttiles"
OWN_NAMES = set(
    "len range enumerate zip min max sum abs sorted reversed int str bool list tuple dict set frozenset isinstance "
    "ord repr any all divmod Exception ValueError TypeError KeyError IndexError LookupError ZeroDivisionError "
    "ArithmeticError OverflowError RuntimeError NotImplementedError AttributeError StopIteration".split()
)
OWN_METHODS = set(
    "append clear copy count endswith extend find get index insert isalnum isalpha isdigit islower isspace isupper "
    "items join keys ljust lower lstrip partition pop remove replace reverse rfind rjust rpartition rsplit rstrip "
    "setdefault split splitlines startswith strip update upper values zfill bit_length".split()
)
UNDERSCORED = {"__init__", "__eq__", "__repr__", "__str__", "__len__"}
NOWHERE = {"register", "mro", "elements", "open", "input", "version_info", "with_traceback", "add_note", "format", "format_map"}
WORDS = (
    r"\b(type|typing|typing_extensions|enum|Enum|IntEnum|StrEnum|Flag|IntFlag|Generic|Protocol|ABC|ABCMeta|namedtuple"
    r"|NamedTuple|TypedDict|TYPE_CHECKING|abstractmethod)\b|dataclass|overload|contextmanager"
)
STATEMENTS = (
    ast.Module, ast.FunctionDef, ast.ClassDef, ast.Assign, ast.AugAssign, ast.If, ast.While, ast.For, ast.Return,
    ast.Break, ast.Continue, ast.Pass, ast.Raise, ast.Try, ast.ExceptHandler, ast.Expr, ast.ImportFrom,
)
EXPRESSIONS = (
    ast.Constant, ast.Name, ast.List, ast.Tuple, ast.Dict, ast.BinOp, ast.UnaryOp, ast.BoolOp, ast.Compare, ast.IfExp,
    ast.Call, ast.Attribute, ast.Subscript, ast.Slice, ast.ListComp, ast.JoinedStr, ast.FormattedValue, ast.Lambda,
)
AROUND = (
    ast.comprehension, ast.arguments, ast.arg, ast.keyword, ast.alias, ast.expr_context, ast.boolop, ast.unaryop,
    ast.cmpop, ast.operator,
)
BUILTINS = set(dir(builtins))


def files():
    return sorted(PACKAGE.glob("*.py"))


def trees():
    return [(path, ast.parse(path.read_text())) for path in files()]


def nodes(kinds):
    return [(path, node) for path, tree in trees() for node in ast.walk(tree) if isinstance(node, kinds)]


def bound_names(node):
    """The parameters and locals of a def."""
    names = [arg.arg for arg in node.args.args]
    for inner in ast.walk(node):
        if isinstance(inner, ast.Name) and isinstance(inner.ctx, ast.Store):
            names.append(inner.id)
        if isinstance(inner, ast.arg):
            names.append(inner.arg)
    return names


class Language(unittest.TestCase):
    def none_of(self, found):
        self.assertEqual([f"{path.name}:{node.lineno}" for path, node in found], [])

    def test_files_and_signs(self):
        self.assertTrue(files())
        for path in PACKAGE.iterdir():
            if path.name == "__pycache__":
                continue
            self.assertRegex(path.name, r"\A([a-z][a-z0-9_]*|__init__|__main__)\.py\Z")
            self.assertNotIn(path.stem, BUILTINS)
        for path in files():
            text = path.read_bytes().decode("ascii")
            self.assertRegex(text, r"\A[ -~\n]*\Z", path.name)
            self.assertIsNone(re.search(WORDS, text), path.name)
            rows = text.split("\n")
            self.assertLessEqual(len(rows), 400, path.name)
            self.assertTrue(all(len(row) <= 120 for row in rows), path.name)

    def test_short_defs(self):
        self.none_of([(p, n) for p, n in nodes(ast.FunctionDef) if n.end_lineno - n.lineno + 1 > 40])

    def test_only_known_forms(self):
        known = STATEMENTS + EXPRESSIONS + AROUND
        for path, tree in trees():
            for node in ast.walk(tree):
                self.assertIsInstance(node, known, path.name)

    def test_imports(self):
        drawn = {}
        for path, node in nodes(ast.ImportFrom):
            self.assertEqual(node.level, 0)
            self.assertRegex(node.module, r"\Aslanttiles\.[a-z_]+\Z")
            target = PACKAGE / (node.module.split(".")[1] + ".py")
            defined = [n.name for n in ast.parse(target.read_text()).body if isinstance(n, (ast.FunctionDef, ast.ClassDef))]
            for alias in node.names:
                self.assertIsNone(alias.asname)
                self.assertIn(alias.name, defined)
            drawn.setdefault(path.stem, []).append(target.stem)
        left = {path.stem for path in files()}
        while left:
            free = {stem for stem in left if not left & set(drawn.get(stem, []))}
            self.assertTrue(free, "files draw from one another")
            left -= free

    def test_tops_of_files(self):
        for path, tree in trees():
            self.assertIsNotNone(ast.get_docstring(tree), path.name)
            names = []
            for node in tree.body[1:]:
                self.assertIsInstance(node, (ast.ImportFrom, ast.FunctionDef, ast.ClassDef, ast.Assign), path.name)
                if isinstance(node, ast.ImportFrom):
                    names += [alias.name for alias in node.names]
                elif isinstance(node, ast.Assign):
                    names.append(node.targets[0].id)
                    ast.literal_eval(node.value)
                else:
                    names.append(node.name)
            self.assertEqual(len(names), len(set(names)), path.name)
            self.assertFalse(set(names) & BUILTINS, path.name)

    def test_defs(self):
        for path, node in nodes(ast.FunctionDef):
            args = node.args
            plain = not (args.vararg or args.kwarg or args.kwonlyargs or args.posonlyargs or node.decorator_list)
            self.assertTrue(plain, f"{path.name}:{node.lineno}")
            self.assertIsNone(node.returns)
        self.none_of([(p, n) for p, n in nodes(ast.arg) if n.annotation])

    def test_classes(self):
        methods, values = set(), set()
        for path, node in nodes(ast.ClassDef):
            self.assertLessEqual(len(node.bases), 1)
            self.assertFalse(node.decorator_list or node.keywords)
            body = node.body[1:] if ast.get_docstring(node) else node.body
            self.assertTrue(all(isinstance(inner, ast.FunctionDef) for inner in body), f"{path.name}:{node.lineno}")
            own = [inner.name for inner in body]
            self.assertEqual(len(own), len(set(own)))
            methods |= set(own)
        for path, node in nodes(ast.Attribute):
            if isinstance(node.ctx, ast.Store):
                values.add(node.attr)
        self.assertFalse(methods & values)
        kinds = [str, int, list, dict, set, bytes, tuple]
        pythons = {name for kind in kinds for name in dir(kind)}
        self.assertFalse(values & pythons)
        self.assertFalse((methods - UNDERSCORED - OWN_METHODS) & pythons)

    def test_names(self):
        for path, tree in trees():
            tops = [n.name for n in tree.body if isinstance(n, ast.ClassDef)]
            tops += [a.name for n in tree.body if isinstance(n, ast.ImportFrom) for a in n.names]
            for node in ast.walk(tree):
                if isinstance(node, ast.FunctionDef):
                    for name in bound_names(node):
                        self.assertNotIn(name, BUILTINS, f"{path.name}:{node.lineno}")
                        self.assertNotIn(name, tops, f"{path.name}:{node.lineno}")
                    self.assertTrue(node.name[0] != "_" or node.name in UNDERSCORED)
                    self.assertNotIn(node.name, NOWHERE)
                if isinstance(node, ast.Name):
                    self.assertTrue(node.id[0] != "_")
                    self.assertTrue(node.id in OWN_NAMES or node.id not in BUILTINS, f"{path.name}:{node.lineno}")
                    self.assertNotIn(node.id, NOWHERE)

    def test_attributes(self):
        own = {node.name for path, node in nodes(ast.FunctionDef)}
        values = {node.attr for path, node in nodes(ast.Attribute) if isinstance(node.ctx, ast.Store)}
        for path, node in nodes(ast.Attribute):
            self.assertIn(node.attr, own | values | OWN_METHODS | {"__init__"}, f"{path.name}:{node.lineno}")
            self.assertNotIn(node.attr, NOWHERE)

    def test_statements(self):
        self.none_of([(p, n) for p, n in nodes((ast.For, ast.While)) if n.orelse])
        self.none_of([(p, n) for p, n in nodes(ast.Try) if n.finalbody])
        self.none_of([(p, n) for p, n in nodes(ast.Assign) if len(n.targets) != 1])
        self.none_of([(p, n) for p, n in nodes(ast.Raise) if not isinstance(n.exc, ast.Call)])
        texts = [(p, n) for p, n in nodes(ast.Expr) if not isinstance(n.value, (ast.Call, ast.Constant))]
        self.none_of(texts)

    def test_expressions(self):
        self.none_of([(p, n) for p, n in nodes((ast.Div, ast.MatMult))])
        self.none_of([(p, n) for p, n in nodes(ast.Constant) if isinstance(n.value, (float, complex, bytes))])
        self.none_of([(p, n) for p, n in nodes(ast.Constant) if isinstance(n.value, str) and "%" in n.value])
        self.none_of([(p, n) for p, n in nodes(ast.FormattedValue) if not isinstance(n.value, ast.Name)])
        self.none_of([(p, n) for p, n in nodes(ast.ListComp) if len(n.generators) != 1])
        self.none_of([(p, n) for p, n in nodes(ast.ListComp) if len(n.generators[0].ifs) > 1])
        for path, node in nodes(ast.Compare):
            for sign, right in zip(node.ops, node.comparators):
                if isinstance(sign, (ast.Is, ast.IsNot)):
                    self.assertIsInstance(right, ast.Constant, f"{path.name}:{node.lineno}")
        for path, node in nodes(ast.BinOp):
            if isinstance(node.op, ast.Pow):
                self.assertIsInstance(node.right, ast.Constant, f"{path.name}:{node.lineno}")

    def test_walked_at_once(self):
        walking = ["list", "tuple", "dict", "sorted", "sum", "any", "all", "enumerate", "zip", "min", "max"]
        fine = []
        for path, node in nodes((ast.For, ast.comprehension, ast.Call)):
            if not isinstance(node, ast.Call):
                fine.append((path, node.iter))
            elif isinstance(node.func, ast.Name) and node.func.id in walking:
                fine += [(path, inner) for inner in (node.args if node.func.id == "zip" else node.args[:1])]
            elif isinstance(node.func, ast.Attribute) and node.func.attr == "join":
                fine += [(path, inner) for inner in node.args]
        places = {(path, node.lineno, node.col_offset, ast.dump(node)) for path, node in fine}
        for path, node in nodes(ast.Call):
            kept = isinstance(node.func, ast.Name) and node.func.id in ["zip", "enumerate", "reversed", "range"]
            if kept or isinstance(node.func, ast.Attribute) and node.func.attr in ["items", "keys", "values"]:
                place = (path, node.lineno, node.col_offset, ast.dump(node))
                self.assertIn(place, places, f"{path.name}:{node.lineno}")

    def test_methods_are_not_handed_on(self):
        methods = {n.name for _, c in nodes(ast.ClassDef) for n in c.body if isinstance(n, ast.FunctionDef)}
        for path, tree in trees():
            called = {id(node.func) for node in ast.walk(tree) if isinstance(node, ast.Call)}
            for node in ast.walk(tree):
                if isinstance(node, ast.Attribute) and node.attr in methods | OWN_METHODS:
                    self.assertIn(id(node), called, f"{path.name}:{node.lineno}")

    def test_sets_are_not_kept(self):
        fine = []
        for path, node in nodes((ast.Call, ast.Compare)):
            if isinstance(node, ast.Compare):
                fine += [node.left] + node.comparators
            elif isinstance(node.func, ast.Name) and node.func.id in ["sorted", "len"] and not node.keywords:
                fine += node.args
        places = {(node.lineno, node.col_offset, ast.dump(node)) for node in fine}
        for path, node in nodes(ast.Call):
            if isinstance(node.func, ast.Name) and node.func.id in ["set", "frozenset"]:
                self.assertIn((node.lineno, node.col_offset, ast.dump(node)), places, f"{path.name}:{node.lineno}")

    def test_what_a_loop_walks_is_not_changed_in_it(self):
        changing = ["append", "clear", "extend", "insert", "pop", "remove", "reverse", "setdefault", "update"]
        for path, node in nodes(ast.For):
            walked = {inner.id for inner in ast.walk(node.iter) if isinstance(inner, ast.Name)}
            for inner in [found for row in node.body for found in ast.walk(row)]:
                if isinstance(inner, ast.Attribute) and inner.attr in changing and isinstance(inner.value, ast.Name):
                    self.assertNotIn(inner.value.id, walked, f"{path.name}:{inner.lineno}")
                if isinstance(inner, ast.Subscript) and isinstance(inner.ctx, ast.Store):
                    if isinstance(inner.value, ast.Name):
                        self.assertNotIn(inner.value.id, walked, f"{path.name}:{inner.lineno}")


if __name__ == "__main__":
    unittest.main()
