"""Rules of ../shared/LANGUAGE.md that can be seen in the files of the package."""

import ast
import builtins
import pathlib
import re
import unittest

import gluewhole

PACKAGE = pathlib.Path(gluewhole.__file__).parent
FILES = sorted([path for path in PACKAGE.rglob("*") if path.is_file() and "__pycache__" not in path.parts])
BUILTINS = set(
    "len range enumerate zip min max sum abs sorted reversed int str bool bytes list tuple dict set frozenset "
    "isinstance ord repr any all divmod pow getattr hasattr setattr Exception ValueError TypeError KeyError IndexError "
    "LookupError ZeroDivisionError ArithmeticError OverflowError RuntimeError NotImplementedError AttributeError "
    "StopIteration NotImplemented iter next map property staticmethod classmethod super".split())
METHODS = set(
    "append clear copy count endswith extend find get index insert isalnum isalpha isdigit islower isspace isupper "
    "items join keys ljust lower lstrip partition pop remove replace reverse rfind rjust rpartition rsplit rstrip "
    "setdefault split splitlines startswith strip update upper values zfill bit_length".split())
BARRED = set(
    "type typing typing_extensions enum Enum IntEnum StrEnum Flag IntFlag Generic Protocol ABC ABCMeta namedtuple "
    "NamedTuple TypedDict TYPE_CHECKING abstractmethod dataclass overload contextmanager register mro elements open "
    "input law version_info with_traceback add_note id hash global async eval exec compile vars dir".split())
OWN = ("__init__", "__eq__", "__str__", "__repr__", "__len__", "__contains__")
LIBRARY = {"math": ("gcd", "comb"), "itertools": ("combinations",)}
STATEMENTS = (
    ast.Assign, ast.AugAssign, ast.If, ast.While, ast.For, ast.Return, ast.Break, ast.Continue, ast.Pass, ast.Raise,
    ast.Expr, ast.FunctionDef, ast.ClassDef, ast.ImportFrom, ast.Try)
BARRED_NODES = (
    ast.GeneratorExp, ast.Global, ast.AsyncFunctionDef, ast.Await, ast.Import, ast.Yield, ast.YieldFrom,
    ast.Div, ast.AnnAssign, ast.With)


def trees():
    """The files with their trees."""
    return [(path, ast.parse(path.read_text())) for path in FILES]


def imported(tree):
    """The names that a file imports."""
    return [name.name for node in tree.body if isinstance(node, ast.ImportFrom) for name in node.names]


def is_plain(node, functions):
    """Whether a value is plain, or a dict of plain values, of tuples of such, and of functions defined above."""
    if isinstance(node, ast.Dict):
        return all([isinstance(key, ast.Constant) for key in node.keys]) and all([
            not isinstance(value, ast.Dict) and is_plain(value, functions) for value in node.values])
    if isinstance(node, ast.Tuple):
        return all([isinstance(item, ast.Constant) for item in node.elts])
    return isinstance(node, ast.Constant) or isinstance(node, ast.Name) and node.id in functions


def bound(tree):
    """The names that functions of a file bind: parameters, variables, nested functions."""
    found = []
    for node in ast.walk(tree):
        if isinstance(node, ast.arg):
            found.append(node.arg)
        elif isinstance(node, ast.Name) and isinstance(node.ctx, (ast.Store, ast.Del)):
            found.append(node.id)
        elif isinstance(node, ast.ExceptHandler) and node.name is not None:
            found.append(node.name)
    return found


class Files(unittest.TestCase):
    def test_files_and_characters(self):
        for path in FILES:
            self.assertTrue(re.fullmatch(r"[a-z0-9_]+\.py", path.name), path)
            text = path.read_text()
            self.assertTrue(all([character == "\n" or " " <= character <= "~" for character in text]), path)
            lines = text.split("\n")
            self.assertLessEqual(len(lines), 399, path)
            self.assertLessEqual(max([len(line) for line in lines]), 120, path)
        for folder in {path.parent for path in FILES}:
            self.assertTrue((folder / "__init__.py").is_file())

    def test_functions_are_short(self):
        for path, tree in trees():
            for node in ast.walk(tree):
                if isinstance(node, ast.FunctionDef):
                    self.assertLessEqual(node.end_lineno - node.lineno + 1, 40, (path, node.name))

    def test_module_level(self):
        for path, tree in trees():
            for node in tree.body:
                self.assertIsInstance(node, (ast.Expr, ast.ImportFrom, ast.FunctionDef, ast.ClassDef, ast.Assign))
                if isinstance(node, ast.Assign):
                    above = [one.name for one in tree.body
                             if isinstance(one, ast.FunctionDef) and one.lineno < node.lineno]
                    self.assertTrue(is_plain(node.value, above), (path, node.lineno))
                if isinstance(node, ast.Expr):
                    self.assertIsInstance(node.value, ast.Constant)

    def test_each_name_is_bound_once(self):
        for path, tree in trees():
            names = imported(tree)
            for node in tree.body:
                if isinstance(node, (ast.FunctionDef, ast.ClassDef)):
                    names.append(node.name)
                if isinstance(node, ast.Assign):
                    names += [target.id for target in node.targets]
            self.assertEqual(len(names), len(set(names)), path)

    def test_imports(self):
        reached = {}
        for path, tree in trees():
            name = ".".join(path.relative_to(PACKAGE.parent).with_suffix("").parts)
            reached[name] = []
            for node in tree.body:
                if isinstance(node, ast.ImportFrom):
                    self.assertEqual(node.level, 0)
                    self.assertTrue(all([one.asname is None for one in node.names]))
                    if node.module in LIBRARY:
                        self.assertTrue(all([one.name in LIBRARY[node.module] for one in node.names]), path)
                        continue
                    source = ast.parse((PACKAGE.parent / (node.module.replace(".", "/") + ".py")).read_text())
                    told = [one.name for one in source.body if isinstance(one, (ast.FunctionDef, ast.ClassDef))]
                    told += [one.targets[0].id for one in source.body if isinstance(one, ast.Assign)]
                    self.assertTrue(all([one.name in told for one in node.names]), (path, node.module))
                    reached[name].append(node.module)
            used = [node.id for node in ast.walk(tree) if isinstance(node, ast.Name)]
            for one in imported(tree):
                self.assertTrue(one in used, (path, one))
        for _ in reached:
            for name, others in reached.items():
                reached[name] = sorted(set(others) | {far for other in others for far in reached[other]})
        for name, others in reached.items():
            self.assertNotIn(name, others)


class Words(unittest.TestCase):
    def test_names(self):
        for path, tree in trees():
            told = imported(tree) + [node.name for node in tree.body if isinstance(node, ast.ClassDef)]
            functions = [node.name for node in ast.walk(tree) if isinstance(node, ast.FunctionDef)]
            names = bound(tree)
            told += [node.name for node in tree.body if isinstance(node, ast.FunctionDef)]
            for name in names:
                self.assertNotIn(name, told, path)
            for name in [name for name in names + functions if name not in OWN]:
                self.assertFalse(hasattr(builtins, name), (path, name))
                self.assertFalse(name.startswith("__"), (path, name))
                self.assertNotIn(name, BARRED, path)

    def test_words_that_do_not_occur(self):
        for path, tree in trees():
            for node in ast.walk(tree):
                for name in [getattr(node, field, None) for field in ("id", "attr", "name", "arg")]:
                    if isinstance(name, str):
                        self.assertNotIn(name, BARRED, path)
                if isinstance(node, ast.Constant) and isinstance(node.value, str):
                    self.assertNotIn("%", node.value)

    def test_builtins_and_methods(self):
        own = set()
        for path, tree in trees():
            own |= {node.name for node in ast.walk(tree) if isinstance(node, ast.FunctionDef)}
        for path, tree in trees():
            for node in ast.walk(tree):
                if isinstance(node, ast.Name) and hasattr(builtins, node.id):
                    self.assertIn(node.id, BUILTINS, path)
                if isinstance(node, ast.Call) and isinstance(node.func, ast.Attribute):
                    self.assertIn(node.func.attr, METHODS | own, path)
                if isinstance(node, ast.Call):
                    words = [word.arg for word in node.keywords]
                    self.assertTrue(all([word in ("key", "default") for word in words]), (path, node.lineno))


class Statements(unittest.TestCase):
    def test_statements(self):
        for path, tree in trees():
            for node in ast.walk(tree):
                self.assertNotIsInstance(node, BARRED_NODES, (path, getattr(node, "lineno", None)))
                if isinstance(node, ast.stmt):
                    self.assertIsInstance(node, STATEMENTS, (path, node.lineno))
                if isinstance(node, ast.FunctionDef):
                    self.assertTrue(all([ast.unparse(one) == "property" for one in node.decorator_list]))
                if isinstance(node, ast.Constant):
                    self.assertNotIsInstance(node.value, float)

    def test_library_names_are_called_at_once(self):
        names = [name for told in LIBRARY.values() for name in told]
        for path, tree in trees():
            parents = {child: node for node in ast.walk(tree) for child in ast.iter_child_nodes(node)}
            for node in ast.walk(tree):
                if isinstance(node, ast.Name) and node.id in names:
                    call = parents[node]
                    self.assertTrue(isinstance(call, ast.Call) and call.func is node and not call.keywords, path)
                    if node.id == "combinations":
                        above = parents[call]
                        listed = isinstance(above, ast.Call) and getattr(above.func, "id", "") == "list"
                        self.assertTrue(listed or isinstance(above, ast.comprehension) and above.iter is call, path)
                        self.assertIsInstance(call.args[1], ast.Name)

    def test_handlers(self):
        errors = [node.name for node in ast.parse((PACKAGE / "errors.py").read_text()).body
                  if isinstance(node, ast.ClassDef)]
        for path, tree in trees():
            for function in [node for node in ast.walk(tree) if isinstance(node, ast.FunctionDef)]:
                names = [node.name for node in ast.walk(function) if isinstance(node, ast.ExceptHandler) and node.name]
                self.assertEqual(len(names), len(set(names)), path)
                for name in names:
                    stored = [node for node in ast.walk(function) if isinstance(node, ast.Name)
                              and node.id == name and isinstance(node.ctx, ast.Store)]
                    self.assertEqual(stored, [])
            for node in [node for node in ast.walk(tree) if isinstance(node, ast.Try)]:
                self.assertEqual(node.finalbody, [])
                for handler in node.handlers:
                    told = handler.type.elts if isinstance(handler.type, ast.Tuple) else [handler.type]
                    self.assertTrue(all([one.id in errors for one in told]), path)

    def test_is_stands_beside_none(self):
        for path, tree in trees():
            for node in ast.walk(tree):
                if isinstance(node, ast.Compare) and isinstance(node.ops[0], (ast.Is, ast.IsNot)):
                    self.assertIn(ast.unparse(node.comparators[0]), ("None", "True", "False"), (path, node.lineno))

    def test_inner_comprehensions_have_names_of_their_own(self):
        kinds = (ast.ListComp, ast.DictComp, ast.SetComp)
        for path, tree in trees():
            for function in [node for node in ast.walk(tree) if isinstance(node, ast.FunctionDef)]:
                outer = [node for node in ast.walk(function) if isinstance(node, kinds)]
                pairs = [(one, inner) for one in outer for inner in ast.walk(one) if isinstance(inner, kinds)]
                within = {inner for one, inner in pairs if inner is not one}
                plain = {one for comprehension in outer for one in ast.walk(comprehension)}
                names = set(bound(ast.Module([function.args], []))) | {
                    node.id for node in ast.walk(function)
                    if isinstance(node, ast.Name) and isinstance(node.ctx, ast.Store) and node not in plain}
                for inner in within:
                    told = {name for part in inner.generators for name in bound(part.target)}
                    self.assertFalse(told & names, (path, function.name, told & names))
                    for one in outer:
                        if one is not inner and inner in set(ast.walk(one)):
                            around = {name for part in one.generators for name in bound(part.target)}
                            self.assertFalse(told & around, (path, function.name, told & around))

    def test_exponents_are_literals(self):
        for path, tree in trees():
            for node in ast.walk(tree):
                if isinstance(node, ast.BinOp) and isinstance(node.op, ast.Pow):
                    self.assertIsInstance(node.right, ast.Constant, (path, node.lineno))

    def test_ranges_and_views_are_iterated_at_once(self):
        fine = ("list", "tuple", "dict", "sorted", "sum", "any", "all", "enumerate", "zip", "min", "max", "reversed")
        for path, tree in trees():
            parents = {child: node for node in ast.walk(tree) for child in ast.iter_child_nodes(node)}
            for node in ast.walk(tree):
                if not isinstance(node, ast.Call):
                    continue
                name = node.func.id if isinstance(node.func, ast.Name) else getattr(node.func, "attr", "")
                if name in ("zip", "enumerate", "reversed", "range", "items", "keys", "values"):
                    above = parents[node]
                    looped = isinstance(above, (ast.For, ast.comprehension)) and above.iter is node
                    called = isinstance(above, ast.Call) and getattr(above.func, "id", "") in fine
                    kept = isinstance(above, ast.Assign) and name == "range"
                    self.assertTrue(looped or called or kept, (path, node.lineno))

    def test_sets_stand_in_sorted_or_len(self):
        for path, tree in trees():
            parents = {child: node for node in ast.walk(tree) for child in ast.iter_child_nodes(node)}
            for node in ast.walk(tree):
                self.assertNotIsInstance(node, ast.Set, path)
                called = isinstance(node, ast.Call) and isinstance(node.func, ast.Name) and node.func.id == "set"
                if called or isinstance(node, ast.SetComp):
                    above = parents[node]
                    self.assertIsInstance(above, ast.Call, (path, node.lineno))
                    self.assertIn(above.func.id, ("sorted", "len"), (path, node.lineno))
                    self.assertEqual(above.keywords, [])


if __name__ == "__main__":
    unittest.main()
