"""The package keeps to its small part of Python: what of the rules can be seen file by file."""

import ast
import builtins
import functools
import pathlib
import re
import unittest
import warnings

PACKAGE = pathlib.Path(__file__).resolve().parent.parent / "teefloors"
FILES = sorted(PACKAGE.iterdir())

LIBRARY = {
    "heapq": {"heappush", "heappop", "heapify", "heapreplace", "heappushpop"},
    "math": {"gcd", "lcm", "isqrt", "comb", "perm", "factorial"},
    "itertools": {
        "product", "combinations", "permutations", "chain", "accumulate", "pairwise", "islice", "zip_longest",
    },
    "collections": {"defaultdict"},
}
BUILTINS = set("""
    len range enumerate zip min max sum abs sorted reversed int str bool list tuple dict set frozenset isinstance ord
    repr any all divmod pow map iter next Exception ValueError TypeError KeyError IndexError LookupError
    ZeroDivisionError ArithmeticError OverflowError RuntimeError NotImplementedError AttributeError StopIteration
    NotImplemented property staticmethod classmethod super
""".split())
METHODS = set("""
    append clear copy count endswith extend find get index insert isalnum isalpha isdigit islower isspace isupper items
    join keys ljust lower lstrip partition pop remove replace reverse rfind rjust rpartition rsplit rstrip setdefault
    split splitlines startswith strip update upper values zfill bit_length add discard
""".split())
BARRED = set("""
    type typing typing_extensions enum Enum IntEnum StrEnum Flag IntFlag Generic Protocol ABC ABCMeta namedtuple
    NamedTuple TypedDict TYPE_CHECKING abstractmethod dataclass overload contextmanager register mro elements open
    input law version_info with_traceback add_note
""".split())
OBJECT = {"__init__", "__eq__"}
BARRED_NODES = (
    ast.Global, ast.AsyncFunctionDef, ast.AsyncFor, ast.AsyncWith, ast.Await, ast.Import, ast.GeneratorExp, ast.Div,
)


def tree_of(file):
    return ast.parse(file.read_text(encoding="utf-8"), str(file))


def module_names(tree):
    """What a file binds at module level, each as often as it does."""
    found = []
    for row in tree.body:
        if isinstance(row, (ast.FunctionDef, ast.ClassDef)):
            found.append(row.name)
        elif isinstance(row, ast.ImportFrom):
            found.extend(one.name for one in row.names)
        elif isinstance(row, ast.Assign):
            found.extend(one.id for one in row.targets)
    return found


@functools.lru_cache(None)
def own_methods():
    """The names of all methods of the classes of the package."""
    classes = [row for file in FILES if file.suffix == ".py" for row in tree_of(file).body if isinstance(row, ast.ClassDef)]
    return {row.name for one in classes for row in one.body if isinstance(row, ast.FunctionDef)}


def is_table_of_functions(tree, value):
    """Whether value is a dict from strings to functions that are defined ahead of it in this file."""
    ahead = {row.name for row in tree.body if isinstance(row, ast.FunctionDef) and row.lineno < value.lineno}
    if not isinstance(value, ast.Dict) or not all(isinstance(one, ast.Constant) for one in value.keys):
        return False
    return all(isinstance(one, ast.Name) and one.id in ahead for one in value.values)


def local_names(function):
    """The parameters and local variables of a function."""
    arguments = function.args
    told = [*arguments.posonlyargs, *arguments.args, *arguments.kwonlyargs, arguments.vararg, arguments.kwarg]
    stored = [one for one in ast.walk(function) if isinstance(one, ast.Name) and isinstance(one.ctx, ast.Store)]
    return {one.arg for one in told if one is not None} | {one.id for one in stored}


class Files(unittest.TestCase):
    def each(self):
        for file in FILES:
            if file.name != "__pycache__":
                with self.subTest(file=file.name):
                    yield file, tree_of(file)

    def test_files(self):
        for file, _ in self.each():
            self.assertRegex(file.name, r"^[a-z_]+\.py$")
            text = file.read_bytes()
            self.assertTrue(all(code == 10 or 32 <= code <= 126 for code in text))
            self.assertTrue(text.endswith(b"\n"))
            rows = text.decode("ascii").split("\n")
            self.assertLessEqual(len(rows), 400)
            self.assertLessEqual(max(len(row) for row in rows), 120)

    def test_no_warnings(self):
        for file, _ in self.each():
            with warnings.catch_warnings():
                warnings.simplefilter("error")
                compile(file.read_text(encoding="utf-8"), str(file), "exec")

    def test_functions(self):
        for _, tree in self.each():
            for node in ast.walk(tree):
                if isinstance(node, ast.FunctionDef):
                    self.assertLessEqual(node.end_lineno - node.lineno + 1, 40, node.name)
                    self.assertIsNotNone(ast.get_docstring(node) or node.name == "__init__" or None, node.name)

    def test_module_level(self):
        for _, tree in self.each():
            self.assertIsNotNone(ast.get_docstring(tree))
            for row in tree.body[1:]:
                self.assertIsInstance(row, (ast.ImportFrom, ast.FunctionDef, ast.ClassDef, ast.Assign))
                if isinstance(row, ast.Assign) and not is_table_of_functions(tree, row.value):
                    ast.literal_eval(row.value)
            names = module_names(tree)
            self.assertEqual(len(names), len(set(names)))

    def test_imports(self):
        for file, tree in self.each():
            for node in ast.walk(tree):
                if isinstance(node, ast.ImportFrom):
                    self.assertEqual(node.level, 0)
                    self.assertTrue(all(one.asname is None for one in node.names))
                    names = {one.name for one in node.names}
                    if node.module in LIBRARY:
                        self.assertLessEqual(names, LIBRARY[node.module])
                        continue
                    self.assertRegex(node.module, r"^teefloors\.[a-z_]+$")
                    told = tree_of(PACKAGE / (node.module.split(".")[1] + ".py"))
                    own = [row for row in told.body if not isinstance(row, ast.ImportFrom)]
                    self.assertLessEqual(names, set(module_names(ast.Module(own, []))))

    def test_every_import_is_used(self):
        for _, tree in self.each():
            used = {node.id for node in ast.walk(tree) if isinstance(node, ast.Name)}
            for row in tree.body:
                if isinstance(row, ast.ImportFrom):
                    self.assertLessEqual({one.name for one in row.names}, used)

    def test_no_circles(self):
        leads = {}
        for file, tree in self.each():
            rows = [row.module for row in tree.body if isinstance(row, ast.ImportFrom)]
            leads[f"teefloors.{file.stem}"] = {name for name in rows if name not in LIBRARY}
        while leads:
            free = [name for name, others in leads.items() if not others & set(leads)]
            self.assertTrue(free, leads)
            leads = {name: others for name, others in leads.items() if name not in free}

    def test_names(self):
        for _, tree in self.each():
            imports = {one.name for row in tree.body if isinstance(row, ast.ImportFrom) for one in row.names}
            classes = {row.name for row in tree.body if isinstance(row, ast.ClassDef)}
            self.assertFalse(set(module_names(tree)) & set(dir(builtins)))
            for node in ast.walk(tree):
                if isinstance(node, ast.FunctionDef):
                    self.assertFalse(local_names(node) & (imports | classes | set(dir(builtins))), node.name)
                if isinstance(node, ast.Name) and node.id in dir(builtins):
                    self.assertIn(node.id, BUILTINS)

    def test_words(self):
        for file, tree in self.each():
            for node in ast.walk(tree):
                told = [getattr(node, name, None) for name in ("id", "attr", "arg", "name")]
                self.assertFalse(set(one for one in told if isinstance(one, str)) & BARRED)
            code = re.sub(r'""".*?"""|#[^"\n]*$', "", file.read_text(encoding="utf-8"), flags=re.DOTALL | re.MULTILINE)
            self.assertFalse(set(re.findall(r"\w+", code)) & BARRED)

    def test_statements(self):
        for _, tree in self.each():
            for node in ast.walk(tree):
                self.assertNotIsInstance(node, BARRED_NODES)
                if isinstance(node, ast.Constant):
                    self.assertNotIsInstance(node.value, (float, complex))
                    self.assertNotIn("%", str(node.value))
                if isinstance(node, ast.Call) and isinstance(node.func, ast.Attribute):
                    self.assertIn(node.func.attr, METHODS | own_methods())

    def test_classes(self):
        """No name is a method of one class and an attribute of any, and no attribute is read that none assigns."""
        methods, assigned, read = own_methods(), set(), set()
        for _, tree in self.each():
            for node in ast.walk(tree):
                if isinstance(node, ast.Attribute):
                    (assigned if isinstance(node.ctx, ast.Store) else read).add(node.attr)
                if isinstance(node, ast.ClassDef):
                    names = [row.name for row in node.body if isinstance(row, ast.FunctionDef)]
                    self.assertEqual(len(names), len(set(names)))
                    self.assertFalse(set(names) & set(dir(int) + dir(str) + dir(list) + dir(dict) + dir(bytes)) - OBJECT)
        self.assertFalse(methods & assigned)
        self.assertLessEqual(read, assigned | methods | METHODS)
        self.assertFalse(assigned & METHODS)

    def test_sets(self):
        """A set stands in sorted(..), in len(..), or between two signs there."""
        for _, tree in self.each():
            above = {under: node for node in ast.walk(tree) for under in ast.iter_child_nodes(node)}
            for node in ast.walk(tree):
                called = isinstance(node, ast.Call) and isinstance(node.func, ast.Name) and node.func.id == "set"
                if called or isinstance(node, (ast.Set, ast.SetComp)):
                    over = above[node]
                    while isinstance(over, ast.BinOp):
                        over = above[over]
                    self.assertIsInstance(over, ast.Call)
                    self.assertIn(over.func.id, ("sorted", "len"))


if __name__ == "__main__":
    unittest.main()
