"""The package keeps to the language: those rules that can be seen in the code, some of them more narrowly."""

import ast
import builtins
import pathlib
import re
import unittest

PACKAGE = pathlib.Path(__file__).resolve().parent.parent / "fairtrees"

BUILTINS = set("""len range enumerate zip min max sum abs sorted reversed int str bool bytes list tuple dict set frozenset
isinstance ord repr any all divmod Exception ValueError TypeError KeyError IndexError LookupError ZeroDivisionError
ArithmeticError OverflowError RuntimeError NotImplementedError AttributeError StopIteration super property staticmethod
classmethod""".split())
METHODS = set("""append clear copy count endswith extend find get index insert isalnum isalpha isdigit islower isspace
isupper items join keys ljust lower lstrip partition pop remove replace reverse rfind rjust rpartition rsplit rstrip
setdefault split splitlines startswith strip update upper values zfill bit_length title capitalize swapcase casefold
removeprefix removesuffix rindex isascii isdecimal isnumeric add discard""".split())
DUNDERS = set("__init__ __eq__ __repr__ __str__ __len__ __enter__ __exit__".split())
NOWHERE = set("register mro elements open input version_info with_traceback add_note format format_map".split())
UNNAMED = set("""attrgetter breakpoint builtins compile copyright credits delattr dir eval exec exit gc getattr globals
hasattr help id importlib license locals methodcaller os quit setattr super type vars sys""".split())
BARRED = re.compile(r"\b(type|typing|typing_extensions|enum|Enum|IntEnum|StrEnum|Flag|IntFlag|Generic|Protocol|ABC|ABCMeta|"
                    r"namedtuple|NamedTuple|TypedDict|TYPE_CHECKING|abstractmethod)\b|dataclass|overload|contextmanager")
STATEMENTS = (ast.Assign, ast.AugAssign, ast.If, ast.While, ast.For, ast.Return, ast.Break, ast.Continue, ast.Pass,
              ast.Raise, ast.Assert, ast.Delete, ast.Try, ast.Expr, ast.FunctionDef, ast.ClassDef, ast.ImportFrom)
BANNED = (ast.Lambda, ast.NamedExpr, ast.Div, ast.MatMult, ast.GeneratorExp, ast.Yield, ast.YieldFrom, ast.Await,
          ast.AnnAssign, ast.Global, ast.Nonlocal, ast.With, ast.Match, ast.Import, ast.AsyncFunctionDef)
AT_ONCE = ("zip", "enumerate", "reversed", "range")
TAKERS = ("list", "tuple", "dict", "sorted", "sum", "any", "all", "enumerate", "zip", "min", "max")

FILES = sorted(PACKAGE.glob("*.py"))
TREES = {path.stem: ast.parse(path.read_text()) for path in FILES}
OWN_METHODS = {node.name for tree in TREES.values() for top in ast.walk(tree) if isinstance(top, ast.ClassDef)
               for node in top.body if isinstance(node, ast.FunctionDef)}


def nodes(*kinds):
    """Tell all nodes of these kinds, with the names of their files."""
    return [(name, node) for name, tree in TREES.items() for node in ast.walk(tree) if isinstance(node, kinds)]


def bound(tree):
    """Tell the names that a file binds at its module level."""
    told = []
    for node in tree.body:
        if isinstance(node, (ast.FunctionDef, ast.ClassDef)):
            told.append(node.name)
        elif isinstance(node, ast.Assign):
            told += [target.id for target in node.targets]
        elif isinstance(node, ast.ImportFrom):
            told += [alias.asname or alias.name for alias in node.names]
    return told


def is_call_of(node, names):
    return isinstance(node, ast.Call) and isinstance(node.func, ast.Name) and node.func.id in names


class Language(unittest.TestCase):
    def test_files(self):
        self.assertTrue(FILES)
        for path in PACKAGE.iterdir():
            if path.name != "__pycache__":
                self.assertRegex(path.name, r"^(__init__|[a-z][a-z0-9_]*)\.py$")
        for path in FILES:
            text = path.read_text()
            lines = text.split("\n")
            self.assertLessEqual(len(lines), 400, path.name)
            self.assertLessEqual(max(map(len, lines)), 120, path.name)
            self.assertRegex(text, r"\A[ -~\n]*\Z", path.name)
            self.assertIsNone(BARRED.search(text), path.name)

    def test_imports(self):
        leads = {name: set() for name in TREES}
        for name, node in nodes(ast.ImportFrom):
            self.assertIn(node, TREES[name].body)
            package, _, module = node.module.partition(".")
            self.assertEqual((package, node.level), ("fairtrees", 0), name)
            leads[name].add(module)
            own = [one.name for one in TREES[module].body if isinstance(one, (ast.FunctionDef, ast.ClassDef))]
            own += [target.id for one in TREES[module].body if isinstance(one, ast.Assign) for target in one.targets]
            used = {one.id for one in ast.walk(TREES[name]) if isinstance(one, ast.Name)}
            for alias in node.names:
                self.assertIn(alias.name, own, name)
                self.assertIn(alias.asname or alias.name, used, name)
        for _ in leads:
            leads = {name: rest.union(*[leads[one] for one in rest]) for name, rest in leads.items()}
        for name, rest in leads.items():
            self.assertNotIn(name, rest)

    def test_module_level(self):
        for name, tree in TREES.items():
            self.assertIsNotNone(ast.get_docstring(tree), name)
            for at, node in enumerate(tree.body):
                if isinstance(node, ast.Assign):
                    self.assertEqual([type(target) for target in node.targets], [ast.Name])
                    ast.literal_eval(node.value)
                elif at:
                    self.assertIsInstance(node, (ast.ImportFrom, ast.FunctionDef, ast.ClassDef))
            self.assertEqual(len(bound(tree)), len(set(bound(tree))), name)

    def test_statements_and_expressions(self):
        for name, node in nodes(ast.stmt):
            self.assertIsInstance(node, STATEMENTS, (name, node.lineno))
        for name, node in nodes(*BANNED):
            self.fail((name, node))
        for name, node in nodes(ast.Compare):
            for op, other in zip(node.ops, node.comparators):
                if isinstance(op, (ast.Is, ast.IsNot)):
                    self.assertTrue(isinstance(other, ast.Constant) and other.value in (None, True, False), name)
        for name, node in nodes(ast.Constant):
            self.assertIn(type(node.value), (int, str, bytes, bool, type(None)), name)
            self.assertNotIn("%", str(node.value), name)
        for name, node in nodes(ast.Pow):
            self.fail((name, "write a loop"))

    def test_functions(self):
        for name, node in nodes(ast.FunctionDef):
            self.assertLessEqual(node.end_lineno - node.lineno + 1, 40, (name, node.name))
            self.assertEqual(node.args.posonlyargs, [])
            self.assertIsNone(node.returns)
            self.assertEqual([one.annotation for one in node.args.args + node.args.kwonlyargs if one.annotation], [])
            self.assertEqual(node.decorator_list, [])
            if not node.name.startswith("__"):
                self.assertIsNotNone(ast.get_docstring(node), (name, node.name))
        for name, node in nodes(ast.ClassDef):
            self.assertIn(node, TREES[name].body)
            for inner in node.body:
                if isinstance(inner, ast.FunctionDef) and inner.name.startswith("__"):
                    self.assertIn(inner.name, DUNDERS)

    def test_names(self):
        for name, tree in TREES.items():
            barred = {one.name for one in tree.body if isinstance(one, ast.ClassDef)}
            barred |= {alias.asname or alias.name for one in tree.body if isinstance(one, ast.ImportFrom) for alias in one.names}
            barred |= set(dir(builtins))
            for node in ast.walk(tree):
                if isinstance(node, ast.Name) and isinstance(node.ctx, ast.Load) and node.id in dir(builtins):
                    self.assertIn(node.id, BUILTINS, (name, node.lineno))
                elif isinstance(node, (ast.Name, ast.arg)):
                    told = node.id if isinstance(node, ast.Name) else node.arg
                    self.assertRegex(told, r"^[A-Za-z][A-Za-z0-9_]*$")
                    self.assertNotIn(told, NOWHERE | UNNAMED, name)
                    if isinstance(node, ast.arg) or isinstance(node.ctx, ast.Store):
                        self.assertNotIn(told, barred, (name, node.lineno))
                elif isinstance(node, ast.Attribute):
                    self.assertNotIn(node.attr, NOWHERE, name)
                    self.assertTrue(node.attr in DUNDERS or node.attr[0] != "_", (name, node.attr))
            for one in bound(tree):
                self.assertNotIn(one, dir(builtins), name)

    def test_calls(self):
        for name, node in nodes(ast.Call):
            if isinstance(node.func, ast.Attribute) and node.func.attr not in DUNDERS:
                self.assertIn(node.func.attr, METHODS | OWN_METHODS, (name, node.lineno))
            if is_call_of(node, dir(builtins)):
                self.assertLessEqual({one.arg for one in node.keywords}, {"key", "reverse", "default", "start", "strict"})
        for name, tree in TREES.items():
            for outer in ast.walk(tree):
                for inner in ast.iter_child_nodes(outer):
                    if is_call_of(inner, AT_ONCE):
                        fits = isinstance(outer, (ast.For, ast.comprehension)) and outer.iter == inner
                        fits = fits or is_call_of(outer, TAKERS) and outer.args[0] == inner
                        self.assertTrue(fits, (name, inner.lineno))

    def test_sets(self):
        for name, tree in TREES.items():
            for outer in ast.walk(tree):
                for inner in ast.iter_child_nodes(outer):
                    if isinstance(inner, (ast.Set, ast.SetComp)) or is_call_of(inner, ("set",)):
                        fits = is_call_of(outer, ("sorted", "len")) or isinstance(outer, (ast.Compare, ast.BinOp))
                        fits = fits or isinstance(outer, ast.Assign) and isinstance(outer.targets[0], ast.Name)
                        self.assertTrue(fits, (name, inner.lineno))

    def test_errors(self):
        own = set(bound(TREES["errors"]))
        for name, node in nodes(ast.Raise):
            self.assertTrue(node.exc is None or is_call_of(node.exc, own), (name, node.lineno))
        for name, node in nodes(ast.ExceptHandler):
            self.assertIsInstance(node.type, ast.Name, (name, node.lineno))
            self.assertIn(node.type.id, own | {"KeyError"}, (name, node.lineno))

    def test_double_underscore_methods(self):
        for name, node in nodes(ast.FunctionDef):
            if node.name in ("__eq__", "__len__", "__str__", "__repr__"):
                kept = set()
                for inner in ast.walk(node):
                    if isinstance(inner, ast.Assign):
                        self.assertIsInstance(inner.value, (ast.List, ast.ListComp), (name, inner.lineno))
                        kept |= {target.id for target in inner.targets}
                    self.assertNotIsInstance(inner, (ast.AugAssign, ast.Delete), (name, node.name))
                    if isinstance(inner, ast.Expr) and isinstance(inner.value, ast.Call):
                        self.assertIn(inner.value.func.value.id, kept, (name, inner.lineno))
                    if isinstance(inner, ast.Return) and node.name == "__len__":
                        self.assertTrue(is_call_of(inner.value, ("len",)), (name, inner.lineno))
                    if isinstance(inner, ast.Return) and node.name in ("__str__", "__repr__"):
                        self.assertIsInstance(inner.value.func.value, ast.Constant, (name, inner.lineno))
                        self.assertEqual(inner.value.func.attr, "join", (name, inner.lineno))
                self.assertIsInstance(node.body[-1], ast.Return)

    def test_methods_and_attributes(self):
        stored = {node.attr for name, node in nodes(ast.Attribute) if isinstance(node.ctx, ast.Store)}
        called = {id(node.func) for name, node in nodes(ast.Call)}
        self.assertEqual(stored & OWN_METHODS, set())
        # Stored sets are added to, so no own method may be called so.
        self.assertEqual((stored | OWN_METHODS) & {"add", "discard"}, set())
        for name, node in nodes(ast.Attribute):
            if isinstance(node.ctx, ast.Load) and id(node) not in called:
                self.assertIn(node.attr, stored, (name, node.lineno))
            if isinstance(node.ctx, ast.Store):
                self.assertNotIn(node.attr, METHODS, (name, node.lineno))

    def test_stored_sets_are_asked_and_not_passed_on(self):
        for name, tree in TREES.items():
            for function in ast.walk(tree):
                if not isinstance(function, ast.FunctionDef):
                    continue
                kept = [node.targets[0].id for node in ast.walk(function) if isinstance(node, ast.Assign)
                        and (isinstance(node.value, (ast.Set, ast.SetComp)) or is_call_of(node.value, ("set",)))]
                self.assertEqual(len(kept), len(set(kept)), (name, function.name))
                for outer in ast.walk(function):
                    for inner in ast.iter_child_nodes(outer):
                        if isinstance(inner, ast.Name) and inner.id in kept and isinstance(inner.ctx, ast.Load):
                            fits = isinstance(outer, ast.Attribute) and outer.attr in ("add", "discard")
                            fits = fits or isinstance(outer, ast.Compare) and inner in outer.comparators
                            fits = fits or is_call_of(outer, ("len", "sorted"))
                            self.assertTrue(fits, (name, inner.lineno))

    def test_lists_and_dicts_at_module_level_are_only_read(self):
        tables = {target.id for name, node in nodes(ast.Module) for one in node.body if isinstance(one, ast.Assign)
                  and isinstance(one.value, (ast.List, ast.Dict)) for target in one.targets}
        self.assertIn("PARTS", tables)
        for name, tree in TREES.items():
            for outer in ast.walk(tree):
                for inner in ast.iter_child_nodes(outer):
                    if isinstance(inner, ast.Name) and inner.id in tables and isinstance(inner.ctx, ast.Load):
                        fits = isinstance(outer, ast.Subscript) and inner == outer.value and isinstance(outer.ctx, ast.Load)
                        fits = fits or isinstance(outer, ast.Compare) and inner in outer.comparators
                        fits = fits or isinstance(outer, ast.Attribute) and outer.attr in ("get", "items", "keys", "values")
                        fits = fits or isinstance(outer, (ast.For, ast.comprehension)) and outer.iter == inner
                        fits = fits or is_call_of(outer, ("list", "dict", "tuple", "sorted", "len"))
                        self.assertTrue(fits, (name, inner.lineno))

    def test_loops_do_not_change_what_they_go_through(self):
        for name, node in nodes(ast.For):
            walked = {one.id for one in ast.walk(node.iter) if isinstance(one, ast.Name)}
            for inner in [one for row in node.body for one in ast.walk(row)]:
                if isinstance(inner, ast.Call) and isinstance(inner.func, ast.Attribute) \
                        and inner.func.attr in ("append", "pop", "extend", "insert", "remove", "clear", "update", "setdefault"):
                    self.assertNotIn(getattr(inner.func.value, "id", None), walked, (name, inner.lineno))

    def test_escapes(self):
        for path in FILES:
            for escape in re.findall(r"\\.", path.read_text()):
                self.assertIn(escape, ("\\n", "\\t", "\\\\", "\\'", '\\"'), path.name)


if __name__ == "__main__":
    unittest.main()
