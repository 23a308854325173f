import ast
import builtins
import re
import unittest
from pathlib import Path

import caskyears

FOLDER = Path(caskyears.__file__).parent
LIBRARY = {
    "heapq": {"heappush", "heappop", "heapify", "heapreplace", "heappushpop"},
    "math": {"gcd", "lcm", "isqrt", "comb", "perm", "factorial"},
    "itertools": {"product", "combinations", "permutations"},
}
BUILTINS = set(
    "len range enumerate zip min max sum abs sorted reversed int str bool list tuple dict set isinstance ord repr any "
    "all divmod ValueError property".split()
)
METHODS = set(
    "append clear copy count endswith extend find get index insert isalnum isalpha isdigit islower isspace isupper items "
    "join keys ljust lower lstrip partition pop remove replace reverse rfind rjust rpartition rsplit rstrip setdefault "
    "split splitlines startswith strip update upper values zfill bit_length".split()
)
BARRED = set(
    "register mro elements open input law version_info with_traceback add_note attrgetter breakpoint builtins compile "
    "copyright credits delattr dir eval exec exit gc getattr globals hasattr help id importlib license locals methodcaller "
    "os quit setattr super type vars sys typing enum Enum Generic Protocol ABC namedtuple NamedTuple chr pow map".split()
)
AT_ONCE = {"zip", "enumerate", "reversed", "range", "items", "keys", "values"}
TAKERS = {"list", "tuple", "dict", "sorted", "sum", "any", "all", "enumerate", "zip", "min", "max", "combinations",
    "reversed"}
NODES = (
    ast.Global, ast.AsyncFunctionDef, ast.AsyncFor, ast.AsyncWith, ast.Await, ast.Import, ast.GeneratorExp, ast.Div,
    ast.Try,
    ast.Yield, ast.YieldFrom, ast.With, ast.Match, ast.AnnAssign, ast.Set,
)


def trees():
    """Return a list of the names, the texts and the trees of all files of the package."""
    paths = sorted(FOLDER.glob("*.py"))
    return [(path.name, path.read_text(encoding="utf-8"), ast.parse(path.read_text(encoding="utf-8")))
        for path in paths]


def called(node):
    """Return the name of what a call calls."""
    return node.func.id if isinstance(node.func, ast.Name) else node.func.attr


def own_names():
    """Return the set of the names of all methods, and of all attributes that methods give their own objects."""
    classes = [node for _, _, tree in trees() for node in tree.body if isinstance(node, ast.ClassDef)]
    inside = [node for entry in classes for node in ast.walk(entry)]
    names = {node.name for node in inside if isinstance(node, ast.FunctionDef)}
    return names | {node.attr for node in inside if isinstance(node, ast.Attribute) and isinstance(node.ctx, ast.Store)}


class Language(unittest.TestCase):
    """The rules that a file shows by its text alone; the package keeps to fewer kinds of statements than they allow."""

    def test_files(self):
        for path in FOLDER.iterdir():
            if path.name != "__pycache__":
                self.assertRegex(path.name, r"^[a-z0-9_]+\.py$")
        for name, text, _ in trees():
            with self.subTest(file=name):
                self.assertRegex(text, r"\A[ -~\n]*\n\Z")
                self.assertLessEqual(len(text.splitlines()), 399)
                self.assertLessEqual(max(map(len, text.splitlines())), 120)

    def test_functions(self):
        for name, _, tree in trees():
            for node in ast.walk(tree):
                if isinstance(node, (ast.FunctionDef, ast.ClassDef)):
                    with self.subTest(file=name, function=node.name):
                        self.assertLessEqual({entry.id for entry in node.decorator_list}, {"property"})
                        self.assertTrue(ast.get_docstring(node) or node.name == "__init__")
                if isinstance(node, ast.FunctionDef):
                    self.assertLessEqual(node.end_lineno - node.lineno + 1, 40)
                    self.assertIsNone(node.returns)
                    self.assertFalse(any(argument.annotation for argument in node.args.args))
                    self.assertFalse(node.args.defaults + node.args.kwonlyargs + node.args.posonlyargs)

    def test_module_level(self):
        for name, _, tree in trees():
            bound = []
            for at, node in enumerate(tree.body):
                with self.subTest(file=name, line=node.lineno):
                    if at == 0:
                        self.assertTrue(ast.get_docstring(tree))
                    elif isinstance(node, ast.ImportFrom):
                        bound.extend(alias.asname or alias.name for alias in node.names)
                    elif isinstance(node, ast.Assign):
                        self.assertIsInstance(node.targets[0], ast.Name)
                        bound.append(node.targets[0].id)
                    else:
                        self.assertIsInstance(node, (ast.FunctionDef, ast.ClassDef))
                        bound.append(node.name)
            self.assertEqual(len(bound), len(set(bound)), name)

    def test_imports(self):
        defined, needs = {}, {}
        for name, _, tree in trees():
            module = "caskyears." + name[:-3]
            defined[module] = {node.name for node in tree.body if isinstance(node, (ast.FunctionDef, ast.ClassDef))}
            defined[module] |= {node.targets[0].id for node in tree.body if isinstance(node, ast.Assign)}
            needs[module] = [node for node in tree.body if isinstance(node, ast.ImportFrom)]
        for module, imports in needs.items():
            for node in imports:
                with self.subTest(module=module, line=node.lineno):
                    self.assertEqual(node.level, 0)
                    self.assertFalse([alias for alias in node.names if alias.asname])
                    names = {alias.name for alias in node.names}
                    self.assertLessEqual(names, LIBRARY.get(node.module) or defined[node.module])
        ready = set(LIBRARY)
        while len(ready) < len(needs) + len(LIBRARY):
            more = {module for module in needs if {node.module for node in needs[module]} <= ready} - ready
            self.assertTrue(more, "files import from each other")
            ready |= more

    def test_all_imports_are_used(self):
        for name, _, tree in trees():
            used = {node.id for node in ast.walk(tree) if isinstance(node, ast.Name)}
            for node in tree.body:
                if isinstance(node, ast.ImportFrom):
                    self.assertLessEqual({alias.name for alias in node.names}, used, name)

    def test_names(self):
        for name, _, tree in trees():
            imported = {alias.name for node in tree.body if isinstance(node, ast.ImportFrom) for alias in node.names}
            own = {node.name for node in tree.body if isinstance(node, (ast.FunctionDef, ast.ClassDef))}
            stored = {node.id for node in ast.walk(tree) if isinstance(node, ast.Name)
                and isinstance(node.ctx, ast.Store)}
            stored |= {node.arg for node in ast.walk(tree) if isinstance(node, ast.arg)}
            with self.subTest(file=name):
                self.assertFalse((stored | own) & (set(dir(builtins)) - {"_"}))
                self.assertFalse(stored & (imported | own), "a name of the file is used for a variable, too")
                self.assertFalse((stored | own | imported) & BARRED)
                self.assertFalse([entry for entry in stored | own
                    if not re.fullmatch(r"_|[A-Za-z][A-Za-z0-9_]*", entry)])
                loaded = {node.id for node in ast.walk(tree) if isinstance(node, ast.Name)
                    and isinstance(node.ctx, ast.Load)}
                self.assertLessEqual(loaded & set(dir(builtins)), BUILTINS)
                self.assertNotIn("_", loaded)

    def test_nodes(self):
        own = own_names()
        for name, _, tree in trees():
            with self.subTest(file=name):
                self.assertFalse([node for node in ast.walk(tree) if isinstance(node, NODES)])
            for node in ast.walk(tree):
                with self.subTest(file=name, line=getattr(node, "lineno", None)):
                    if isinstance(node, ast.Constant):
                        self.assertNotIsInstance(node.value, (float, bytes))
                        self.assertNotIn("%", node.value if isinstance(node.value, str) else "")
                    if isinstance(node, ast.BinOp) and isinstance(node.op, ast.Pow):
                        self.assertIn(node.right.value, range(65))
                    if isinstance(node, ast.Compare) and any(isinstance(sign, (ast.Is, ast.IsNot))
                        for sign in node.ops):
                        self.assertEqual([entry.value for entry in node.comparators], [None])
                    if isinstance(node, ast.Raise):
                        self.assertIsInstance(node.exc, ast.Call)
                        self.assertRegex(node.exc.func.id, "^[A-Z]")
                    if isinstance(node, ast.Attribute) and not isinstance(node.ctx, ast.Store):
                        self.assertIn(node.attr, METHODS | own | {"__init__"})

    def test_iterated_at_once(self):
        for name, _, tree in trees():
            fit = []
            for node in ast.walk(tree):
                if isinstance(node, (ast.For, ast.comprehension)):
                    fit.append(node.iter)
                if isinstance(node, ast.Call) and called(node) in TAKERS:
                    fit.extend(node.args)
                if isinstance(node, ast.Assign) and isinstance(node.value, ast.Call) and called(node.value) == "range":
                    fit.append(node.value)
            for node in ast.walk(tree):
                if isinstance(node, ast.Call) and called(node) in AT_ONCE:
                    with self.subTest(file=name, line=node.lineno):
                        self.assertIn(node, fit)
                if isinstance(node, ast.SetComp):
                    users = [user for user in ast.walk(tree) if isinstance(user, ast.Call) and node in user.args]
                    self.assertEqual([called(user) for user in users], ["sorted"])


if __name__ == "__main__":
    unittest.main()
