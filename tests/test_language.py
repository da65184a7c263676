"""The package keeps to the small language it is written in.

What a glance at the syntax can tell is told here, rule by rule; a failure
names the rule, the file and the line.
"""

import ast
import builtins
import unittest
import warnings
from pathlib import Path

PACKAGE = Path(__file__).resolve().parent.parent / "foursfold"

LIBRARY = {
    "heapq": {"heappush", "heappop", "heapify", "heapreplace", "heappushpop"},
    "math": {"gcd", "lcm", "isqrt", "comb", "perm", "factorial"},
    "itertools": {"product", "combinations", "permutations", "chain", "accumulate", "pairwise", "islice", "zip_longest"},
    "collections": {"defaultdict"},
}
BUILTINS = set(
    "len range enumerate zip min max sum abs sorted reversed int str bool bytes list tuple dict set frozenset isinstance"
    " ord repr any all divmod pow map iter next Exception ValueError TypeError KeyError IndexError LookupError"
    " ZeroDivisionError ArithmeticError OverflowError RuntimeError NotImplementedError AttributeError StopIteration"
    " NotImplemented super getattr hasattr setattr".split()
)
METHODS = set(
    "append clear copy count endswith extend find get index insert isalnum isalpha isdigit islower isspace isupper items"
    " join keys ljust lower lstrip partition pop remove replace reverse rfind rjust rpartition rsplit rstrip setdefault"
    " split splitlines startswith strip update upper values zfill bit_length add discard".split()
)
DOUBLE = set("__init__ __eq__ __repr__ __str__ __len__ __enter__ __exit__ __call__ __iter__".split())
STATEMENTS = (
    ast.Assign, ast.AugAssign, ast.If, ast.While, ast.For, ast.Return, ast.Break, ast.Continue, ast.Pass, ast.Raise,
    ast.Assert, ast.Delete, ast.Nonlocal, ast.Match, ast.With, ast.Try, ast.Expr, ast.FunctionDef,
)
BARRED_NAMES = set(
    "register mro elements open input law version_info with_traceback add_note attrgetter breakpoint builtins compile"
    " copyright credits delattr dir eval exec exit gc globals help id importlib license locals methodcaller os quit"
    " type vars sys".split()
)
BARRED_WORDS = set(
    "typing typing_extensions enum Enum IntEnum StrEnum Flag IntFlag Generic Protocol ABC ABCMeta namedtuple NamedTuple"
    " TypedDict TYPE_CHECKING abstractmethod _wall _WallAttr".split()
)
TAKERS = ("list", "tuple", "dict")
# Python's prompt, and doctest with it, sets the name _ there.
BUILTIN_NAMES = set(vars(builtins)) - {"_"}


def files():
    return sorted(path for path in PACKAGE.iterdir() if path.name != "__pycache__")


def module_of(path):
    return "foursfold" if path.stem == "__init__" else "foursfold." + path.stem


def bound_names(node):
    """The names that a function's or module's node binds within itself."""
    found = []
    for part in ast.walk(node):
        if isinstance(part, ast.Name) and isinstance(part.ctx, ast.Store):
            found.append((part.id, part))
        if isinstance(part, ast.arg):
            found.append((part.arg, part))
        if isinstance(part, (ast.FunctionDef, ast.ClassDef)):
            found.append((part.name, part))
    return found


class Language(unittest.TestCase):
    @classmethod
    def setUpClass(cls):
        cls.texts = {path: path.read_text(encoding="utf-8") for path in files()}
        cls.trees = {path: ast.parse(text) for path, text in cls.texts.items()}
        cls.defined = {
            module_of(path): [node.name for node in tree.body if isinstance(node, (ast.FunctionDef, ast.ClassDef))]
            + [target.id for node in tree.body if isinstance(node, ast.Assign) for target in node.targets]
            for path, tree in cls.trees.items()
        }
        nodes = [node for tree in cls.trees.values() for node in ast.walk(tree)]
        cls.methods = {
            part.name for node in nodes if isinstance(node, ast.ClassDef) for part in node.body
            if isinstance(part, ast.FunctionDef)
        }
        cls.attributes = {
            node.attr for node in nodes if isinstance(node, ast.Attribute) and isinstance(node.ctx, ast.Store)
        }

    def fault(self, rule, path, node):
        self.fail(f"{rule}: {path.name} row {getattr(node, 'lineno', node)}")

    def each(self, *kinds):
        for path, tree in self.trees.items():
            for node in ast.walk(tree):
                if isinstance(node, kinds):
                    yield path, node

    def test_files_and_characters(self):
        self.assertLess(len(self.texts), 101)
        for path, text in self.texts.items():
            if path.suffix != ".py" or path.name != path.name.lower() or not path.is_file():
                self.fault("L1", path, 1)
            lines = text.split("\n")
            if len(lines) > 400 or max(map(len, lines)) > 120:
                self.fault("L10", path, len(lines))
            if any(sign != "\n" and not " " <= sign <= "~" for sign in text):
                self.fault("L14", path, 1)
            with warnings.catch_warnings():
                warnings.simplefilter("error")
                compile(text, str(path), "exec")

    def test_imports(self):
        needs = {}
        for path, tree in self.trees.items():
            head = True
            needs[module_of(path)] = []
            for node in tree.body:
                is_import = isinstance(node, ast.ImportFrom)
                head = head and (is_import or isinstance(node, ast.Expr))
                if is_import and not head:
                    self.fault("L2", path, node)
        for path, node in self.each(ast.Import, ast.ImportFrom):
            names = [alias.name for alias in getattr(node, "names", [])]
            if isinstance(node, ast.Import) or node.level or any(alias.asname for alias in node.names):
                self.fault("L2", path, node)
            elif node.module in LIBRARY:
                if not set(names) <= LIBRARY[node.module]:
                    self.fault("L2", path, node)
            elif not set(names) <= set(self.defined.get(node.module, [])):
                self.fault("L16", path, node)
            else:
                needs[module_of(path)].append(node.module)
        self.assertEqual(needs["foursfold"], [])
        while needs:
            free = [module for module, wanted in needs.items() if not set(wanted) & set(needs)]
            self.assertTrue(free, "L16: files that import from each other")
            needs = {module: wanted for module, wanted in needs.items() if module not in free}

    def test_imports_are_used(self):
        for path, tree in self.trees.items():
            read = {node.id for node in ast.walk(tree) if isinstance(node, ast.Name)}
            for node in tree.body:
                for alias in node.names if isinstance(node, ast.ImportFrom) else []:
                    self.assertIn(alias.name, read, path.name)

    def test_module_level(self):
        for path, tree in self.trees.items():
            names = []
            for node in tree.body:
                if isinstance(node, (ast.FunctionDef, ast.ClassDef)):
                    names.append(node.name)
                elif isinstance(node, ast.Assign):
                    self.check_table(path, node.value, names)
                    names.extend(target.id for target in node.targets)
                    if len(node.targets) != 1 or isinstance(node.value, (ast.Set, ast.List)):
                        self.fault("L3", path, node)
                elif isinstance(node, ast.ImportFrom):
                    names.extend(alias.name for alias in node.names)
                elif not (isinstance(node, ast.Expr) and node is tree.body[0]):
                    self.fault("L3", path, node)
            self.assertEqual(len(names), len(set(names)), path.name)

    def check_table(self, path, value, names):
        """A value can be told; or it is a table of functions that stand above it."""
        if isinstance(value, ast.Dict) and all(isinstance(part, ast.Name) for part in value.values):
            for key, part in zip(value.keys, value.values):
                ast.literal_eval(key)
                if part.id not in names:
                    self.fault("L3", path, part)
        else:
            ast.literal_eval(value)

    def test_functions_and_classes(self):
        for path, node in self.each(ast.FunctionDef):
            if node.decorator_list or node.returns or node.end_lineno - node.lineno > 39:
                self.fault("L4 or L10", path, node)
            if node.name.startswith("__") and node.name not in DOUBLE:
                self.fault("L5", path, node)
            for part in node.args.args + node.args.kwonlyargs:
                if part.annotation:
                    self.fault("L21", path, part)
            for default in node.args.defaults + node.args.kw_defaults:
                if default is not None:
                    ast.literal_eval(default)
            if ast.get_docstring(node) is None and not node.name.startswith("__"):
                self.fault("a docstring", path, node)
        for path, node in self.each(ast.ClassDef):
            names = [part.name for part in node.body if isinstance(part, ast.FunctionDef)]
            rest = [part for part in node.body if not isinstance(part, ast.FunctionDef)]
            if node.decorator_list or node.keywords or len(names) != len(set(names)):
                self.fault("L5 or L18", path, node)
            if len(rest) != 1 or not isinstance(rest[0], ast.Expr):
                self.fault("L5", path, node)

    def test_statements(self):
        for path, node in self.each(ast.stmt):
            if not isinstance(node, STATEMENTS + (ast.ImportFrom, ast.ClassDef)):
                self.fault("L6", path, node)
            if isinstance(node, ast.Expr) and not isinstance(node.value, ast.Call):
                if not isinstance(node.value, ast.Constant) or not isinstance(node.value.value, str):
                    self.fault("L6", path, node)
            if isinstance(node, ast.Raise):
                made = node.exc
                if not isinstance(made, ast.Call) or made.func.id not in self.defined["foursfold.errors"]:
                    self.fault("L19", path, node)
                if made.keywords:
                    self.fault("L19", path, node)
        for path, node in self.each(ast.ExceptHandler):
            caught = node.type.elts if isinstance(node.type, ast.Tuple) else [node.type]
            for one in caught:
                if getattr(one, "id", None) not in self.defined["foursfold.errors"]:
                    self.fault("L19", path, node)

    def test_names(self):
        for path, tree in self.trees.items():
            imported = {alias.name for node in tree.body if isinstance(node, ast.ImportFrom) for alias in node.names}
            classes = {node.name for node in tree.body if isinstance(node, ast.ClassDef)}
            local = set()
            for node in tree.body:
                if isinstance(node, (ast.FunctionDef, ast.ClassDef)):
                    for name, part in bound_names(node):
                        if part is node:
                            continue
                        local.add(name)
                        if name in imported | classes:
                            self.fault("L15", path, part)
            for name, part in bound_names(tree):
                if name in BUILTIN_NAMES or name in BARRED_NAMES:
                    self.fault("L8, L15 or L17", path, part)
                if name.startswith("__") and name not in DOUBLE:
                    self.fault("L8", path, part)
            known = local | imported | classes | set(self.defined[module_of(path)]) | BUILTINS
            for node in ast.walk(tree):
                if isinstance(node, ast.Name) and node.id not in known:
                    self.fault("L8", path, node)
                if isinstance(node, ast.Name) and node.id == "_" and isinstance(node.ctx, ast.Load):
                    self.fault("L12", path, node)

    def test_attributes(self):
        for path, node in self.each(ast.Attribute):
            if not isinstance(node.ctx, ast.Load):
                if node.attr in METHODS or node.attr.startswith("__"):
                    self.fault("L26", path, node)
            elif node.attr not in METHODS | self.methods | self.attributes:
                self.fault("L18 or L25", path, node)
        for name in self.methods & METHODS:
            self.fail(f"L26: a method called {name}")

    def test_expressions(self):
        for path, node in self.each(ast.expr, ast.operator):
            if isinstance(node, (ast.Div, ast.MatMult, ast.Await, ast.Lambda, ast.Yield, ast.YieldFrom, ast.NamedExpr)):
                self.fault("L7", path, node)
            if isinstance(node, ast.Constant) and isinstance(node.value, (float, complex, bytes)):
                self.fault("L7", path, node)
            if isinstance(node, ast.Constant) and isinstance(node.value, str) and "%" in node.value:
                self.fault("L27", path, node)
            if isinstance(node, ast.BinOp) and isinstance(node.op, ast.Pow):
                self.fault("L27", path, node)
            if isinstance(node, ast.Compare):
                sides = [node.left] + node.comparators
                for at, sign in enumerate(node.ops):
                    if isinstance(sign, (ast.Is, ast.IsNot)) and not any(
                        isinstance(side, ast.Constant) and side.value in (None, True, False) for side in sides[at:at + 2]
                    ):
                        self.fault("L20", path, node)

    def test_generators_and_sets(self):
        # A class has __eq__: so any, all, sum and the like take lists.
        for path, tree in self.trees.items():
            allowed = []
            for node in ast.walk(tree):
                if isinstance(node, ast.Call) and isinstance(node.func, ast.Name):
                    if node.func.id in TAKERS:
                        allowed.extend(arg for arg in node.args if isinstance(arg, ast.GeneratorExp))
                    if node.func.id in ("len", "sorted") and not node.keywords:
                        allowed.extend(node.args)
                if isinstance(node, ast.Assign) and isinstance(node.targets[0], ast.Name):
                    allowed.append(node.value)
                if isinstance(node, ast.Compare) and isinstance(node.ops[0], (ast.In, ast.NotIn)):
                    allowed.extend(node.comparators)
            for node in ast.walk(tree):
                makes = isinstance(node, ast.Call) and isinstance(node.func, ast.Name)
                makes = makes and node.func.id in ("set", "frozenset")
                if makes or isinstance(node, (ast.GeneratorExp, ast.Set, ast.SetComp)):
                    if not any(node is one for one in allowed):
                        self.fault("L7 or L24", path, node)

    def test_kept_iterators(self):
        for path, node in self.each(ast.Assign, ast.Return):
            value = node.value
            if isinstance(value, ast.Call) and isinstance(value.func, ast.Name):
                if value.func.id in ("zip", "range", "enumerate", "reversed", "map", "iter", "product"):
                    self.fault("L23", path, node)

    def test_calls_of_builtins(self):
        allowed = {"sorted": {"key", "reverse"}, "min": {"key", "default"}, "max": {"key", "default"},
                   "sum": {"start"}, "enumerate": {"start"}, "zip": {"strict"}}
        for path, node in self.each(ast.Call):
            if isinstance(node.func, ast.Name) and node.func.id in BUILTIN_NAMES:
                if not {word.arg for word in node.keywords} <= allowed.get(node.func.id, set()):
                    self.fault("L22", path, node)
            elif isinstance(node.func, ast.Attribute) and node.func.attr in METHODS and node.keywords:
                self.fault("L25", path, node)
            if isinstance(node.func, ast.Attribute) and node.func.attr == "sort":
                self.fault("L25", path, node)

    def test_calls_of_the_library(self):
        names = set().union(*LIBRARY.values())
        called = []
        for path, node in self.each(ast.Call):
            if isinstance(node.func, ast.Name) and node.func.id in names:
                called.append(node.func)
                if node.keywords or any(isinstance(arg, ast.Starred) for arg in node.args):
                    self.fault("L2", path, node)
        for path, node in self.each(ast.Name):
            if node.id in names and not any(node is one for one in called):
                self.fault("L2", path, node)

    def test_words(self):
        for path, text in self.texts.items():
            words = set("".join(sign if sign.isalnum() or sign == "_" else " " for sign in text).split())
            self.assertFalse(words & BARRED_WORDS, path.name)
            for part in ("dataclass", "overload", "contextmanager", "__dict__", "__class__"):
                self.assertNotIn(part, text, path.name)


if __name__ == "__main__":
    unittest.main()
