"""The rules of LANGUAGE.md that a test can see in the files of the package."""

import ast
import builtins
import pathlib
import re
import unittest

import calledbest

FOLDER = pathlib.Path(calledbest.__file__).parent
FILES = sorted(FOLDER.glob("*.py"))
TREES = {path.stem: ast.parse(path.read_text()) for path in FILES}

LIBRARY = {
    "heapq": {"heappush", "heappop", "heapify", "heapreplace", "heappushpop"},
    "math": {"gcd", "lcm", "isqrt", "comb", "perm", "factorial"},
    "itertools": {"product", "combinations", "permutations", "chain", "accumulate", "pairwise", "islice", "zip_longest"},
    "collections": {"defaultdict"},
}
BUILTINS = set(
    "len range enumerate zip min max sum abs sorted reversed int str bool bytes list tuple dict set isinstance ord repr any all"
    " divmod iter next map Exception ValueError TypeError KeyError IndexError LookupError ZeroDivisionError ArithmeticError"
    " OverflowError RuntimeError NotImplementedError".split()
)
METHODS = set(
    "append clear copy count endswith extend find get index insert isalnum isalpha isdigit islower isspace isupper items join"
    " keys ljust lower lstrip partition pop remove replace reverse rfind rjust rpartition rsplit rstrip setdefault split"
    " splitlines startswith strip update upper values zfill bit_length add discard".split()
)
SPECIAL = {"__init__", "__eq__", "__repr__", "__str__", "__len__"}
BARRED = set(
    "register mro elements open input law version_info with_traceback add_note attrgetter breakpoint builtins compile copyright"
    " credits delattr dir eval exec exit gc globals help id importlib license locals methodcaller os quit sys type vars"
    " typing typing_extensions enum Enum IntEnum StrEnum Flag IntFlag Generic Protocol ABC ABCMeta namedtuple NamedTuple"
    " TypedDict TYPE_CHECKING abstractmethod".split()
)


def nodes_of(kind):
    """Return the list of (file, node) of all nodes of a kind."""
    return [(file, node) for file, tree in TREES.items() for node in ast.walk(tree) if isinstance(node, kind)]


def docstrings_of(tree):
    """Return the identities of the strings that are docstrings."""
    kinds = (ast.Module, ast.FunctionDef, ast.ClassDef)
    bodies = [node.body for node in ast.walk(tree) if isinstance(node, kinds) and node.body]
    return {id(body[0].value) for body in bodies if isinstance(body[0], ast.Expr)}


def names_bound(tree):
    """Return the list of (line, name) of what is bound: names, parameters, functions, classes."""
    bound = []
    for node in ast.walk(tree):
        if isinstance(node, ast.Name) and not isinstance(node.ctx, ast.Load):
            bound.append((node.lineno, node.id))
        elif isinstance(node, ast.arg):
            bound.append((node.lineno, node.arg))
        elif isinstance(node, (ast.FunctionDef, ast.ClassDef)):
            bound.append((node.lineno, node.name))
    return bound


class LanguageTest(unittest.TestCase):

    def test_l1_l10_l14_files(self):
        for path in FOLDER.iterdir():
            if path.name != "__pycache__":
                self.assertRegex(path.name, r"^[a-z_0-9]+\.py$")
        for path in FILES:
            text = path.read_text()
            self.assertTrue(set(text) <= {chr(code) for code in range(32, 127)} | {"\n"}, path.name)
            self.assertLessEqual(len(text.split("\n")), 399, path.name)
            self.assertLessEqual(max(len(line) for line in text.split("\n")), 120, path.name)

    def test_l10_functions(self):
        for file, node in nodes_of(ast.FunctionDef):
            self.assertLessEqual(node.end_lineno - node.lineno + 1, 40, (file, node.name))

    def test_l2_l16_imports(self):
        for file, node in nodes_of((ast.Import, ast.ImportFrom)):
            self.assertIsInstance(node, ast.ImportFrom, file)
            self.assertEqual(node.level, 0, file)
            self.assertIn(node, TREES[file].body, file)
            self.assertTrue(all(alias.asname is None for alias in node.names), file)
            names = {alias.name for alias in node.names}
            if node.module in LIBRARY:
                self.assertTrue(names <= LIBRARY[node.module], file)
            else:
                self.assertTrue(node.module.startswith("calledbest."), file)
                self.assertTrue(names <= self.names_at_top(node.module.partition(".")[2]), (file, names))

    def names_at_top(self, file):
        names = set()
        for node in TREES[file].body:
            if isinstance(node, (ast.FunctionDef, ast.ClassDef)):
                names.add(node.name)
            if isinstance(node, ast.Assign):
                names.update(target.id for target in node.targets)
        return names

    def test_l16_no_circles(self):
        imports = {file: [] for file in TREES}
        for file, node in nodes_of(ast.ImportFrom):
            if node.module not in LIBRARY:
                imports[file].append(node.module.partition(".")[2])
        self.assertEqual(imports["__init__"], [])
        while imports:
            free = [file for file in imports if not any(other in imports for other in imports[file])]
            self.assertNotEqual(free, [], imports)
            for file in free:
                del imports[file]

    def test_l3_l15_module_level(self):
        allowed = (ast.ImportFrom, ast.FunctionDef, ast.ClassDef, ast.Assign, ast.Expr)
        for file, tree in TREES.items():
            bound = []
            for node in tree.body:
                self.assertIsInstance(node, allowed, file)
                if isinstance(node, ast.Expr):
                    self.assertIs(node, tree.body[0], file)
                if isinstance(node, ast.ImportFrom):
                    bound.extend(alias.name for alias in node.names)
            bound.extend(self.names_at_top(file))
            self.assertEqual(len(bound), len(set(bound)), file)
            inner = [name for line, name in self.names_inside(tree)]
            self.assertEqual(set(inner) & self.imports_and_classes(tree), set(), file)

    def names_inside(self, tree):
        functions = [node for node in ast.walk(tree) if isinstance(node, ast.FunctionDef)]
        return [bound for node in functions for part in [node.args, *node.body] for bound in names_bound(part)]

    def imports_and_classes(self, tree):
        names = {node.name for node in tree.body if isinstance(node, ast.ClassDef)}
        for node in tree.body:
            if isinstance(node, ast.ImportFrom):
                names.update(alias.name for alias in node.names)
        return names

    def test_l4_l6_statements(self):
        banned = (
            ast.Global, ast.AsyncFunctionDef, ast.Await, ast.AsyncFor, ast.AsyncWith, ast.Yield, ast.YieldFrom, ast.Div,
            ast.NamedExpr, ast.AnnAssign, ast.Import, ast.MatMult,
        )
        self.assertEqual([(file, node.lineno) for file, node in nodes_of(banned) if hasattr(node, "lineno")], [])
        self.assertEqual(nodes_of((ast.Div, ast.MatMult)), [])
        for file, node in nodes_of((ast.FunctionDef, ast.ClassDef)):
            self.assertEqual(node.decorator_list, [], file)

    def test_l5_special_methods(self):
        for file, node in nodes_of(ast.FunctionDef):
            if node.name.startswith("__"):
                self.assertIn(node.name, SPECIAL, file)

    def test_l7_no_star_in_an_index(self):
        for file, tree in TREES.items():
            self.assertEqual(starred_indexes(tree), [], file)

    def test_l7_which_indexes_have_a_star(self):
        starred = (
            "d[(*p, k)] = 1", "d[*p, k]", "d[(k, f((*p, k)))]", "d[f(*p)]", "d[f(**e)]", "d[{**e}]", "del d[[*p][0]:]",
            "a[0][(*p, k)]", "d[(*p, k)][0] += 1", "f(d[a[(*p, k)]])",
        )
        for text in starred:
            self.assertEqual(starred_indexes(ast.parse(text))[:1], [1], text)
        # A star ahead of the brackets, behind them, or around them is none within them.
        for text in ("g = (*p, k)\nd[g] = 1", "(*p, k)[0]", "[*d[k], 1]", "f(*d[k], **e[k])", "d[k] = (*p, k)", "d[2 * k]"):
            self.assertEqual(starred_indexes(ast.parse(text)), [], text)

    def test_l8_l12_l15_names(self):
        # A doctest leaves what it has shown last in the builtins, as _.
        known = set(dir(builtins)) - {"_"}
        for file, tree in TREES.items():
            for line, name in names_bound(tree):
                self.assertNotIn(name, known, (file, line))
                self.assertRegex(name, r"^(_?[A-Za-z][A-Za-z0-9_]*|__init__|_)$", (file, line))
                self.assertNotIn(name, BARRED, (file, line))
            here = {name for line, name in names_bound(tree)} | self.imports_and_classes(tree)
            for node in ast.walk(tree):
                if isinstance(node, ast.Name) and isinstance(node.ctx, ast.Load):
                    self.assertNotEqual(node.id, "_", (file, node.lineno))
                    if node.id not in here and node.id in known:
                        self.assertIn(node.id, BUILTINS, (file, node.lineno))

    def test_l17_l27_words(self):
        for path in FILES:
            tree = TREES[path.stem]
            documents = docstrings_of(tree)
            for node in ast.walk(tree):
                if isinstance(node, ast.Constant):
                    self.assertIsInstance(node.value, (str, int, type(None)), path.name)
                    if isinstance(node.value, str):
                        self.assertNotIn("%", node.value, path.name)
                        if id(node) not in documents:
                            self.assertFalse(set(re.findall(r"\w+", node.value)) & BARRED, path.name)
                if isinstance(node, ast.Attribute):
                    self.assertNotIn(node.attr, BARRED, path.name)
            for word in ("dataclass", "overload", "contextmanager", "_wall"):
                self.assertNotIn(word, path.read_text())

    def test_l20_is(self):
        for file, node in nodes_of(ast.Compare):
            for sign, right in zip(node.ops, node.comparators):
                if isinstance(sign, (ast.Is, ast.IsNot)):
                    self.assertIsInstance(right, ast.Constant, file)
                    self.assertTrue(right.value is None or isinstance(right.value, bool), file)

    def test_l25_methods(self):
        own = {node.name for made in ast.walk(ast.Module(
            [statement for tree in TREES.values() for statement in tree.body], []
        )) if isinstance(made, ast.ClassDef) for node in made.body if isinstance(node, ast.FunctionDef)}
        for file, node in nodes_of(ast.Call):
            if isinstance(node.func, ast.Attribute):
                self.assertIn(node.func.attr, METHODS | own, (file, node.lineno))

    def test_l22_keywords(self):
        allowed = {"sorted": {"key", "reverse"}, "min": {"key", "default"}, "max": {"key", "default"}, "sum": {"start"}}
        for file, node in nodes_of(ast.Call):
            if isinstance(node.func, ast.Name) and node.func.id in BUILTINS:
                keywords = {keyword.arg for keyword in node.keywords}
                self.assertTrue(keywords <= allowed.get(node.func.id, {"start", "strict"}), (file, node.lineno))

    def test_l23_iterated_at_once(self):
        lazy = {"zip", "enumerate", "reversed", "range", "map", "permutations", "combinations", "product"}
        for file, tree in TREES.items():
            fine = set()
            for node in ast.walk(tree):
                if isinstance(node, (ast.For, ast.comprehension)):
                    fine.add(id(node.iter))
                if isinstance(node, ast.Call) and isinstance(node.func, ast.Name):
                    fine.update(id(argument) for argument in node.args)
                if isinstance(node, ast.Compare):
                    fine.update(id(right) for right in node.comparators)
            for node in ast.walk(tree):
                if isinstance(node, ast.Call):
                    named = isinstance(node.func, ast.Name) and node.func.id in lazy
                    viewed = isinstance(node.func, ast.Attribute) and node.func.attr in ("items", "keys", "values")
                    if named or viewed:
                        self.assertIn(id(node), fine, (file, node.lineno))

    def test_l24_sets(self):
        changing = {"add", "discard"}
        for file, tree in TREES.items():
            for function in [node for node in ast.walk(tree) if isinstance(node, ast.FunctionDef)]:
                kept = [
                    node.targets[0].id for node in ast.walk(function) if isinstance(node, ast.Assign) and is_set(node.value)
                ]
                self.assertEqual(len(kept), len(set(kept)))
                for name in kept:
                    self.assertEqual(self.uses_of(function, name, changing), [], (file, name))

    def uses_of(self, function, name, changing):
        """Return the lines at which a stored set is used in a way that L24 does not name."""
        fine = set()
        for node in ast.walk(function):
            if isinstance(node, ast.Assign) and is_set(node.value):
                fine.add(id(node.targets[0]))
            if isinstance(node, ast.Call) and isinstance(node.func, ast.Name) and node.func.id in ("len", "sorted"):
                fine.update(id(argument) for argument in node.args)
            if isinstance(node, ast.Attribute) and node.attr in changing:
                fine.add(id(node.value))
            if isinstance(node, ast.Compare) and isinstance(node.ops[0], (ast.In, ast.NotIn)):
                fine.add(id(node.comparators[0]))
        found = [node for node in ast.walk(function) if isinstance(node, ast.Name) and node.id == name]
        return [node.lineno for node in found if id(node) not in fine]


def starred_indexes(tree):
    """Return the lines of the indexes and slices within whose brackets a star or ** unpacks something."""
    indexes = [node for node in ast.walk(tree) if isinstance(node, ast.Subscript)]
    return [node.lineno for node in indexes if any(is_starred(part) for part in ast.walk(node.slice))]


def is_starred(node):
    """Tell whether an expression is a star, a keyword from a **, or a dict into which a ** unpacks something."""
    keyword = isinstance(node, ast.keyword) and node.arg is None
    return isinstance(node, ast.Starred) or keyword or (isinstance(node, ast.Dict) and None in node.keys)


def is_set(node):
    """Tell whether an expression makes a set."""
    called = isinstance(node, ast.Call) and isinstance(node.func, ast.Name) and node.func.id == "set"
    return called or isinstance(node, (ast.Set, ast.SetComp))


if __name__ == "__main__":
    unittest.main()
