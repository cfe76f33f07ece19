"""The form of the package's own files: those of the rules L1 to L28 that a look at the text can tell."""

import ast
import builtins
import pathlib
import re
import unittest

PACKAGE = pathlib.Path(__file__).resolve().parent.parent / "steadyhand"
FILES = sorted(path for path in PACKAGE.rglob("*") if path.is_file() and "__pycache__" not in path.parts)
STATEMENTS = (
    ast.Assign, ast.AugAssign, ast.If, ast.While, ast.For, ast.Return, ast.Break, ast.Continue, ast.Pass, ast.Raise,
    ast.Try, ast.Expr, ast.FunctionDef, ast.ClassDef, ast.ImportFrom)
EXPRESSIONS = (
    ast.Constant, ast.Name, ast.List, ast.Tuple, ast.Dict, ast.Set, ast.BinOp, ast.UnaryOp, ast.BoolOp, ast.Compare,
    ast.IfExp, ast.Call, ast.Attribute, ast.Subscript, ast.Slice, ast.ListComp, ast.JoinedStr, ast.FormattedValue,
    ast.Lambda)
OWN_NAMES = set(
    "len range enumerate zip min max sum abs sorted reversed int str bool list tuple dict set frozenset isinstance "
    "ord repr any all divmod Exception ValueError TypeError KeyError IndexError LookupError ZeroDivisionError "
    "ArithmeticError OverflowError RuntimeError NotImplementedError AttributeError StopIteration".split())
METHODS = set(
    "append clear copy count endswith extend find get index insert isalnum isalpha isdigit islower isspace isupper "
    "items join keys ljust lower lstrip partition pop remove replace reverse rfind rjust rpartition rsplit rstrip "
    "setdefault split splitlines startswith strip update upper values zfill bit_length".split())
PYTHONS_METHODS = set(dir(str) + dir(int) + dir(list) + dir(dict) + dir(set) + dir(bytes) + dir(tuple))
DUNDERS = {"__init__", "__eq__", "__repr__", "__str__", "__len__"}
BANNED_WORDS = re.compile(
    r"\b(type|typing|typing_extensions|enum|Enum|IntEnum|StrEnum|Flag|IntFlag|Generic|Protocol|ABC|ABCMeta|namedtuple"
    r"|NamedTuple|TypedDict|TYPE_CHECKING|abstractmethod)\b|dataclass|overload|contextmanager")
WALKERS = {"list", "tuple", "dict", "sorted", "sum", "any", "all", "enumerate", "zip", "min", "max"}
BANNED_NAMES = {"register", "mro", "elements", "open", "input", "version_info", "with_traceback", "add_note", "format",
                "format_map"}


def bound_names(node):
    if isinstance(node, (ast.FunctionDef, ast.ClassDef)):
        return [node.name]
    if isinstance(node, ast.arg):
        return [node.arg]
    if isinstance(node, ast.Name) and isinstance(node.ctx, ast.Store):
        return [node.id]
    if isinstance(node, ast.Attribute):
        return [node.attr]
    return []


def top_names(tree):
    """The names that a file itself binds at its top, in order."""
    told = []
    for node in tree.body:
        if isinstance(node, (ast.FunctionDef, ast.ClassDef)):
            told.append(node.name)
        if isinstance(node, ast.Assign):
            told.extend(target.id for target in node.targets)
    return told


def imported_names(tree):
    return {name.name for node in tree.body if isinstance(node, ast.ImportFrom) for name in node.names}


def trees():
    return [(path, ast.parse(path.read_text(encoding="ascii"))) for path in FILES]


def nodes():
    """Each node of each file, with words that say where it stands."""
    return [(f"{path.name}:{getattr(node, 'lineno', 0)}", node) for path, tree in trees() for node in ast.walk(tree)]


class LanguageTest(unittest.TestCase):
    def test_files(self):
        self.assertIn(PACKAGE / "__init__.py", FILES)
        for path in FILES:
            with self.subTest(file=path.name):
                self.assertRegex(path.name, r"^([a-z][a-z0-9_]*|__init__|__main__)\.py$")
                self.assertNotIn(path.stem, dir(builtins))
                self.assertNotRegex(path.stem, r"^(test|tests|testing|test_.*|site|conftest|.*customize)$")

    def test_signs_and_sizes(self):
        for path in FILES:
            with self.subTest(file=path.name):
                text = path.read_bytes().decode("ascii")
                self.assertRegex(text, r"\A[\n -~]*\Z")
                self.assertLessEqual(len(text.splitlines()), 400)
                self.assertLessEqual(max(len(line) for line in text.splitlines()), 120)
                self.assertIsNone(BANNED_WORDS.search(text))

    def test_functions(self):
        for place, node in nodes():
            if isinstance(node, ast.FunctionDef):
                arguments = node.args
                self.assertLessEqual(node.end_lineno - node.lineno + 1, 40, place)
                self.assertEqual(node.decorator_list, [], place)
                self.assertEqual((arguments.vararg, arguments.kwarg), (None, None), place)
                self.assertEqual((arguments.kwonlyargs, arguments.posonlyargs), ([], []), place)

    def test_imports(self):
        for path, tree in trees():
            body = tree.body[1:]
            imports = [node for node in body if isinstance(node, ast.ImportFrom)]
            self.assertEqual(imports, body[:len(imports)], path.name)
            for node in imports:
                self.assertEqual(node.level, 0, path.name)
                self.assertRegex(node.module, r"^steadyhand\.[a-z_]+$", path.name)
                self.assertTrue((PACKAGE / (node.module.split(".")[1] + ".py")).is_file(), path.name)
                self.assertNotIn("*", [name.name for name in node.names], path.name)

    def test_the_top_of_a_file(self):
        for path, tree in trees():
            self.assertTrue(ast.get_docstring(tree), path.name)
            for node in tree.body[1:]:
                self.assertIsInstance(node, (ast.ImportFrom, ast.FunctionDef, ast.ClassDef, ast.Assign), path.name)

    def test_classes(self):
        for place, node in nodes():
            if isinstance(node, ast.ClassDef):
                self.assertLessEqual(len(node.bases), 1, place)
                self.assertEqual((node.decorator_list, node.keywords), ([], []), place)
                for part in node.body:
                    self.assertIsInstance(part, (ast.FunctionDef, ast.Pass), place)

    def test_statements(self):
        for place, node in nodes():
            if isinstance(node, ast.stmt):
                self.assertIsInstance(node, STATEMENTS, place)
            if isinstance(node, ast.Expr) and not place.endswith(":1"):
                self.assertIsInstance(node.value, ast.Call, place)
            if isinstance(node, (ast.For, ast.While)):
                self.assertEqual(node.orelse, [], place)
            if isinstance(node, ast.Try):
                self.assertEqual(node.finalbody, [], place)
            if isinstance(node, ast.Assign):
                self.assertEqual(len(node.targets), 1, place)

    def test_expressions(self):
        for place, node in nodes():
            if isinstance(node, ast.expr):
                self.assertIsInstance(node, EXPRESSIONS, place)
            if isinstance(node, (ast.BinOp, ast.AugAssign)):
                self.assertNotIsInstance(node.op, (ast.Div, ast.MatMult), place)
            if isinstance(node, ast.Constant):
                self.assertIn(type(node.value), (int, str, bool, type(None)), place)
            if isinstance(node, ast.ListComp):
                self.assertEqual(len(node.generators), 1, place)
                self.assertLessEqual(len(node.generators[0].ifs), 1, place)
            if isinstance(node, ast.Compare) and isinstance(node.ops[0], (ast.Is, ast.IsNot)):
                self.assertIn(getattr(node.comparators[0], "value", 0), (None, True, False), place)

    def test_names(self):
        for place, node in nodes():
            for name in bound_names(node):
                self.assertTrue(name in DUNDERS or re.match(r"^[A-Za-z][A-Za-z0-9_]*$", name), place)
                self.assertNotIn(name, BANNED_NAMES, place)
            if isinstance(node, ast.Name) and isinstance(node.ctx, ast.Load) and node.id in dir(builtins):
                self.assertIn(node.id, OWN_NAMES, place)
            if isinstance(node, ast.Name) and isinstance(node.ctx, ast.Store):
                self.assertNotIn(node.id, dir(builtins), place)
            if isinstance(node, ast.arg):
                self.assertNotIn(node.arg, dir(builtins), place)

    def test_names_come_from_the_file_that_defines_them(self):
        defined = {path.stem: top_names(tree) for path, tree in trees()}
        for path, tree in trees():
            for node in tree.body:
                if isinstance(node, ast.ImportFrom):
                    for name in node.names:
                        self.assertIn(name.name, defined[node.module.split(".")[1]], path.name)
                        self.assertIsNone(name.asname, path.name)

    def test_each_import_is_used(self):
        for path, tree in trees():
            used = {node.id for node in ast.walk(tree) if isinstance(node, ast.Name)}
            self.assertEqual(imported_names(tree) - used, set(), path.name)

    def test_no_two_files_draw_from_one_another(self):
        drawn = {path.stem: {node.module.split(".")[1] for node in tree.body if isinstance(node, ast.ImportFrom)}
                 for path, tree in trees()}
        while drawn:
            free = [name for name in drawn if not drawn[name] & set(drawn)]
            self.assertNotEqual(free, [], sorted(drawn))
            drawn = {name: drawn[name] for name in drawn if name not in free}

    def test_each_name_once_at_the_top(self):
        for path, tree in trees():
            names = top_names(tree) + sorted(imported_names(tree))
            self.assertEqual(sorted(set(names)), sorted(names), path.name)

    def test_each_def_once_in_the_package(self):
        names = [name for path, tree in trees() for name in top_names(tree)]
        self.assertEqual(sorted(set(names)), sorted(names))

    def test_lists_and_dicts_of_the_top_hold_none(self):
        for path, tree in trees():
            for node in tree.body:
                if isinstance(node, ast.Assign):
                    inner = [part for part in ast.walk(node.value) if isinstance(part, (ast.List, ast.Dict))]
                    self.assertLessEqual(len(inner), 1, path.name)
                    self.assertFalse(inner and inner[0] is not node.value, path.name)

    def test_locals_are_not_called_like_classes_imports_or_defs(self):
        for path, tree in trees():
            taken = imported_names(tree) | set(top_names(tree))
            for part in tree.body:
                if isinstance(part, (ast.FunctionDef, ast.ClassDef)):
                    for node in ast.walk(part):
                        name = node.arg if isinstance(node, ast.arg) else None
                        if isinstance(node, ast.Name) and isinstance(node.ctx, ast.Store):
                            name = node.id
                        self.assertNotIn(name, taken, path.name)

    def test_methods_and_values_of_objects(self):
        methods = {part.name for place, node in nodes() if isinstance(node, ast.ClassDef)
                   for part in node.body if isinstance(part, ast.FunctionDef)}
        values = {node.attr for place, node in nodes()
                  if isinstance(node, ast.Attribute) and isinstance(node.ctx, ast.Store)}
        self.assertEqual(methods & values, set())
        allowed = {"count", "index", "title", "find", "get", "join", "lower", "upper", "split", "strip", "copy", "add"}
        self.assertEqual((methods | values) & PYTHONS_METHODS - DUNDERS - allowed, set())
        self.assertNotIn("args", values)

    def test_methods_are_called_where_they_stand(self):
        methods = {part.name for place, node in nodes() if isinstance(node, ast.ClassDef)
                   for part in node.body if isinstance(part, ast.FunctionDef)} | METHODS
        for path, tree in trees():
            called = {id(node.func) for node in ast.walk(tree) if isinstance(node, ast.Call)}
            for node in ast.walk(tree):
                if isinstance(node, ast.Attribute) and node.attr in methods:
                    self.assertIn(id(node), called, f"{path.name}:{node.lineno}")

    def test_classes_are_not_handed_on(self):
        classes = {node.name for place, node in nodes() if isinstance(node, ast.ClassDef)}
        for path, tree in trees():
            fit = set()
            for node in ast.walk(tree):
                if isinstance(node, ast.Call):
                    fit.add(id(node.func))
                    if getattr(node.func, "id", "") == "isinstance":
                        fit.update(id(part) for part in ast.walk(node.args[1]))
                if isinstance(node, ast.ClassDef):
                    fit.update(id(base) for base in node.bases)
                if isinstance(node, ast.ExceptHandler):
                    fit.update(id(part) for part in ast.walk(node.type))
                if isinstance(node, ast.Attribute):
                    fit.add(id(node.value))
            for node in ast.walk(tree):
                if isinstance(node, ast.Name) and node.id in classes:
                    self.assertIn(id(node), fit, f"{path.name}:{node.lineno}")

    def test_walked_at_once(self):
        for path, tree in trees():
            fit = set()
            for node in ast.walk(tree):
                if isinstance(node, (ast.For, ast.comprehension)):
                    fit.add(id(node.iter))
                if isinstance(node, ast.Call) and getattr(node.func, "id", "") in WALKERS and node.args:
                    fit.update(id(part) for part in (node.args if node.func.id == "zip" else node.args[:1]))
            for node in ast.walk(tree):
                name = ""
                if isinstance(node, ast.Call):
                    name = getattr(node.func, "id", "") or getattr(node.func, "attr", "")
                if name in ("zip", "enumerate", "reversed", "range", "items", "keys", "values"):
                    self.assertIn(id(node), fit, f"{path.name}:{node.lineno}")

    def test_what_a_loop_walks_is_not_changed_in_it(self):
        changes = {"append", "clear", "extend", "insert", "pop", "remove", "reverse", "setdefault", "update"}
        for place, loop in nodes():
            if isinstance(loop, ast.For):
                walked = {node.id for node in ast.walk(loop.iter) if isinstance(node, ast.Name)}
                for node in [inner for part in loop.body for inner in ast.walk(part)]:
                    if isinstance(node, ast.Call) and getattr(node.func, "attr", "") in changes:
                        self.assertNotIn(getattr(node.func.value, "id", ""), walked, place)
                    if isinstance(node, ast.Subscript) and isinstance(node.ctx, ast.Store):
                        self.assertNotIn(getattr(node.value, "id", ""), walked, place)

    def test_keywords(self):
        allowed = {"sorted": {"key", "reverse"}, "min": {"key", "default"}, "max": {"key", "default"},
                   "sum": {"start"}, "enumerate": {"start"}, "zip": {"strict"}}
        for place, node in nodes():
            if isinstance(node, ast.Call):
                name = getattr(node.func, "id", "") or getattr(node.func, "attr", "")
                if name in OWN_NAMES | METHODS:
                    self.assertLessEqual({word.arg for word in node.keywords}, allowed.get(name, set()), place)

    def test_pythons_own_are_called_not_kept(self):
        classes = {"int", "str", "bool", "list", "tuple", "dict"}
        for path, tree in trees():
            called = {id(node.func) for node in ast.walk(tree) if isinstance(node, ast.Call)}
            for node in ast.walk(tree):
                if isinstance(node, ast.Name) and node.id in OWN_NAMES - classes and not node.id.endswith("Error"):
                    self.assertIn(id(node), called, f"{path.name}:{node.lineno}")

    def test_errors(self):
        own = {node.name for path, tree in trees() if path.stem == "errors" for node in tree.body
               if isinstance(node, ast.ClassDef)}
        for place, node in nodes():
            if isinstance(node, ast.Raise):
                self.assertIsInstance(node.exc, ast.Call, place)
                self.assertIn(node.exc.func.id, own, place)
            if isinstance(node, ast.ExceptHandler):
                self.assertIn(node.type.id, own, place)

    def test_numbers_and_texts(self):
        for place, node in nodes():
            if isinstance(node, ast.BinOp) and isinstance(node.op, ast.Pow):
                self.assertIsInstance(node.right, ast.Constant, place)
            if isinstance(node, ast.Constant) and isinstance(node.value, str):
                self.assertNotIn("%", node.value, place)
            if isinstance(node, ast.FormattedValue):
                self.assertIsInstance(node.value, ast.Name, place)
                self.assertIsNone(node.format_spec, place)
            if isinstance(node, ast.Set) or getattr(getattr(node, "func", None), "id", "") in ("set", "frozenset"):
                self.fail(place)

    def test_the_methods_with_two_underscores(self):
        for place, node in nodes():
            if isinstance(node, ast.FunctionDef) and node.name == "__init__":
                self.assertFalse([part for part in ast.walk(node) if isinstance(part, ast.Return)], place)

    def test_methods_of_pythons_own_values(self):
        for place, node in nodes():
            if isinstance(node, ast.Call) and isinstance(node.func, ast.Attribute):
                name = node.func.attr
                self.assertTrue(name in METHODS or name in DUNDERS or name not in PYTHONS_METHODS, place)


if __name__ == "__main__":
    unittest.main()
