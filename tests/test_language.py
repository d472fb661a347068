"""What can be told of the files of the package by reading them: promise [1], and rules of LANGUAGE.md."""

import ast
import builtins
import copy
import functools
import pathlib
import re
import unittest
import warnings

PACKAGE = pathlib.Path(__file__).resolve().parent.parent / "madeofhere"
LIBRARY = {
    "heapq": ("heappush", "heappop", "heapify", "heapreplace", "heappushpop"),
    "math": ("gcd", "lcm", "isqrt", "comb", "perm", "factorial"),
    "itertools": ("product", "combinations", "permutations"),
}
BUILTINS = (
    "len range enumerate zip min max sum abs sorted reversed int str bool bytes list tuple dict set frozenset isinstance"
    " ord repr any all divmod iter next map property staticmethod classmethod super Exception ValueError TypeError"
    " KeyError IndexError LookupError ZeroDivisionError ArithmeticError OverflowError RuntimeError NotImplementedError"
    " AttributeError StopIteration NotImplemented"
).split()
BARRED = set(
    "register mro elements open input law version_info with_traceback add_note type typing typing_extensions enum Enum"
    " IntEnum StrEnum Flag IntFlag Generic Protocol ABC ABCMeta namedtuple NamedTuple TypedDict TYPE_CHECKING"
    " abstractmethod".split()
)
MODULE_LEVEL = (ast.ImportFrom, ast.FunctionDef, ast.ClassDef, ast.Assign)


def texts():
    return {path.stem: path.read_text(encoding="utf-8") for path in sorted(PACKAGE.glob("*.py"))}


@functools.cache
def trees():
    return {name: ast.parse(text) for name, text in texts().items()}


class Plain(ast.NodeTransformer):
    """Puts a plain value in the place of each name of a function that is defined above."""

    def __init__(self, above):
        self.above = above

    def visit_Name(self, node):
        return ast.Constant(node.id) if node.id in self.above else node


def nodes(kind):
    return [(name, node) for name, tree in trees().items() for node in ast.walk(tree) if isinstance(node, kind)]


def bound_names(node):
    """The names that a node gives a meaning."""
    if isinstance(node, ast.Name) and isinstance(node.ctx, ast.Store):
        return [node.id]
    if isinstance(node, ast.arg):
        return [node.arg]
    if isinstance(node, (ast.FunctionDef, ast.ClassDef)):
        return [node.name]
    if isinstance(node, ast.alias):
        return [node.asname or node.name]
    return []


class FilesTest(unittest.TestCase):
    def test_the_folder_holds_plain_files_alone(self):
        for path in PACKAGE.iterdir():
            if path.name != "__pycache__":
                self.assertRegex(path.name, r"\A[a-z_][a-z0-9_]*\.py\Z")
        self.assertIn("__init__", texts())

    def test_sizes(self):
        for name, text in texts().items():
            rows = text.split("\n")
            self.assertLessEqual(len(rows), 400, name)
            self.assertLessEqual(max(len(row) for row in rows), 120, name)
        for name, node in nodes((ast.FunctionDef, ast.Lambda)):
            self.assertLessEqual(node.end_lineno - node.lineno + 1, 40, (name, node.lineno))

    def test_characters(self):
        for name, text in texts().items():
            self.assertRegex(text, r"\A[\n -~]*\Z", name)

    def test_no_warning(self):
        with warnings.catch_warnings():
            warnings.simplefilter("error")
            for name, text in texts().items():
                compile(text, name, "exec")

    def test_barred_words(self):
        for name, tree in trees().items():
            used = {node.id for node in ast.walk(tree) if isinstance(node, ast.Name)}
            used |= {node.attr for node in ast.walk(tree) if isinstance(node, ast.Attribute)}
            used |= {node.arg for node in ast.walk(tree) if isinstance(node, (ast.arg, ast.keyword))}
            used |= {told for node in ast.walk(tree) for told in bound_names(node)}
            self.assertEqual(used & BARRED, set(), name)


class ModuleLevelTest(unittest.TestCase):
    def test_only_what_may_stand_there(self):
        for name, tree in trees().items():
            for at, node in enumerate(tree.body):
                if at == 0 and isinstance(node, ast.Expr) and isinstance(node.value, ast.Constant):
                    continue
                self.assertIsInstance(node, MODULE_LEVEL, (name, node.lineno))
                if isinstance(node, ast.Assign):
                    above = [one.name for one in tree.body[:at] if isinstance(one, ast.FunctionDef)]
                    ast.literal_eval(Plain(above).visit(copy.deepcopy(node.value)))

    def test_imports(self):
        self.assertEqual(nodes(ast.Import), [])
        for name, node in nodes(ast.ImportFrom):
            self.assertEqual(node.level, 0, name)
            for alias in node.names:
                if node.module in LIBRARY:
                    self.assertIn(alias.name, LIBRARY[node.module])
                    self.assertIsNone(alias.asname)
                    continue
                self.assertTrue(node.module.startswith("madeofhere."), node.module)
                home = trees()[node.module.split(".")[1]]
                tops = [top for top in home.body if not isinstance(top, ast.ImportFrom)]
                places = [place for top in tops for place in [top] + getattr(top, "targets", [])]
                defined = [told for place in places for told in bound_names(place)]
                self.assertIn(alias.name, defined)

    def test_no_name_is_bound_twice(self):
        for name, tree in trees().items():
            bound = []
            for node in tree.body:
                targets = node.targets if isinstance(node, ast.Assign) else getattr(node, "names", [node])
                bound += [told for target in targets for told in bound_names(target)]
            self.assertEqual(len(bound), len(set(bound)), name)

    def test_every_import_and_every_own_function_is_used(self):
        for name, tree in trees().items():
            used = {node.id for node in ast.walk(tree) if isinstance(node, ast.Name)}
            for node in tree.body:
                if isinstance(node, ast.ImportFrom):
                    self.assertLessEqual({alias.name for alias in node.names}, used, name)
                if isinstance(node, ast.FunctionDef) and node.name.startswith("_"):
                    self.assertIn(node.name, used, name)


class ValuesTest(unittest.TestCase):
    def test_no_floats(self):
        for name, node in nodes(ast.Constant):
            self.assertNotIsInstance(node.value, (float, complex), (name, node.lineno))
        self.assertEqual(nodes(ast.Div), [])

    def test_builtins(self):
        for name, node in nodes(ast.Name):
            if isinstance(node.ctx, ast.Load) and hasattr(builtins, node.id):
                self.assertIn(node.id, BUILTINS, (name, node.lineno))

    def test_no_builtin_has_another_meaning(self):
        for name, node in nodes(ast.AST):
            for told in bound_names(node):
                if told.startswith("__"):
                    self.assertIsInstance(node, ast.FunctionDef, (name, told))
                else:
                    self.assertFalse(hasattr(builtins, told), (name, told))

    def test_local_names_are_no_names_of_the_file(self):
        for name, tree in trees().items():
            top = {told for node in tree.body for target in getattr(node, "names", [node])
                   for told in bound_names(target)}
            for function in ast.walk(tree):
                if isinstance(function, ast.FunctionDef):
                    local = {told for node in ast.walk(function) if node is not function for told in bound_names(node)}
                    self.assertEqual(local & top, set(), (name, function.name))

    def test_strings(self):
        for name, node in nodes(ast.Constant):
            if isinstance(node.value, str):
                self.assertNotIn("%", node.value, (name, node.lineno))
                self.assertIsNone(re.search(r"\A__|__\Z", node.value), (name, node.lineno))

    def test_statements_that_are_not_used(self):
        barred = (ast.Global, ast.AsyncFunctionDef, ast.AsyncFor, ast.AsyncWith, ast.Await, ast.TryStar, ast.AnnAssign)
        self.assertEqual(nodes(barred), [])
        for name, node in nodes((ast.FunctionDef, ast.ClassDef)):
            for decorator in node.decorator_list:
                self.assertIsInstance(node, ast.FunctionDef, name)
                self.assertRegex(ast.unparse(decorator), r"\A(property|staticmethod|classmethod|\w+\.setter)\Z")

    def test_no_generator_expressions_and_no_sorting_in_place(self):
        # A class of the package has __eq__ and __len__.
        self.assertEqual(nodes(ast.GeneratorExp), [])
        for name, node in nodes(ast.Attribute):
            self.assertNotEqual(node.attr, "sort", (name, node.lineno))

    def test_ranges_and_the_like_are_iterated_at_once(self):
        names = ("range", "zip", "enumerate", "reversed")
        for name, tree in trees().items():
            for parent in ast.walk(tree):
                for child in ast.iter_child_nodes(parent):
                    if isinstance(child, ast.Call) and ast.unparse(child.func) in names:
                        self.assertTrue(self.is_iterated(parent, child), (name, child.lineno))

    def is_iterated(self, parent, child):
        """Whether a node iterates over a call in it at once."""
        if isinstance(parent, (ast.For, ast.comprehension)):
            return parent.iter is child
        first = ("list", "tuple", "dict", "sorted", "sum", "any", "all", "enumerate", "zip", "combinations")
        if isinstance(parent, ast.Call) and parent.args[0] is child:
            inner = ast.unparse(child.func)
            return ast.unparse(parent.func) in first + (("len", "reversed") if inner == "range" else ())
        return False

    def test_no_two_files_import_from_each_other(self):
        wanted = {name: {node.module.split(".")[1] for node in ast.walk(tree)
                         if isinstance(node, ast.ImportFrom) and node.module.startswith("madeofhere.")}
                  for name, tree in trees().items()}
        while wanted:
            free = [name for name in wanted if not wanted[name]]
            self.assertNotEqual(free, [], wanted)
            wanted = {name: others - set(free) for name, others in wanted.items() if name not in free}

    def test_double_underscore_methods(self):
        may = {"__init__", "__eq__", "__len__", "__call__", "__contains__", "__enter__", "__exit__"}
        for name, node in nodes(ast.FunctionDef):
            if node.name.startswith("__"):
                self.assertIn(node.name, may, (name, node.lineno))
            if node.name == "__exit__":
                for row in node.body:
                    self.assertIsInstance(row, ast.Assign, (name, row.lineno))
                    self.assertIsInstance(row.value, ast.Attribute, (name, row.lineno))

    def test_handlers_name_own_errors_or_those_that_may_be_caught(self):
        own = {node.name for name, node in nodes(ast.ClassDef)}
        may = own | {"KeyError", "ZeroDivisionError", "StopIteration", "ValueError", "LookupError", "IndexError"}
        for name, node in nodes(ast.ExceptHandler):
            self.assertIsNotNone(node.type, name)
            kinds = node.type.elts if isinstance(node.type, ast.Tuple) else [node.type]
            self.assertLessEqual({ast.unparse(kind) for kind in kinds}, may, name)
