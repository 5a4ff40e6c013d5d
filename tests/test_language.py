"""The rules of LANGUAGE.md that a plain look at the code can check."""

import ast
import builtins
import os
import re
import unittest
import warnings

TOP = os.path.join(os.path.dirname(os.path.abspath(__file__)), "..", "halfmeshes")
LIBRARY = {
    "heapq": {"heappush", "heappop", "heapify", "heapreplace", "heappushpop"},
    "math": {"gcd", "lcm", "isqrt", "comb", "perm", "factorial"},
    "itertools": {"product", "combinations", "permutations", "chain", "accumulate", "pairwise",
                  "islice", "zip_longest"},
    "collections": {"defaultdict"},
}
BUILTINS = set("""
    len range enumerate zip min max sum abs sorted reversed int str bool list tuple dict set
    isinstance ord repr any all divmod map iter next super property staticmethod classmethod
    Exception ValueError TypeError KeyError IndexError LookupError ZeroDivisionError
    ArithmeticError OverflowError RuntimeError NotImplementedError AttributeError
    NotImplemented object
""".split())
METHODS = set("""
    append clear copy count endswith extend find get index insert isalnum isalpha isdigit islower
    isspace isupper items join keys ljust lower lstrip partition pop remove replace reverse rfind
    rjust rpartition rsplit rstrip setdefault split splitlines startswith strip update upper values
    zfill bit_length removeprefix removesuffix rindex isascii isdecimal isnumeric add discard
    __init__
""".split())
BARRED_ATTRIBUTES = set("""
    items keys values pop update append clear extend insert remove reverse setdefault sort args
    encode decode hex fromhex format format_map mro real imag numerator denominator
""".split())
NODES = (
    ast.FunctionDef, ast.ClassDef, ast.Return, ast.Delete, ast.Assign, ast.AugAssign, ast.For,
    ast.While, ast.If, ast.Raise, ast.Try, ast.Assert, ast.ImportFrom, ast.Expr, ast.Pass,
    ast.Break, ast.Continue, ast.Nonlocal, ast.With, ast.Match,
)
BARRED = set("""
    register mro elements open input law version_info with_traceback add_note
""".split())
WORDS = set("""
    type typing typing_extensions enum Enum IntEnum StrEnum Flag IntFlag Generic Protocol ABC
    ABCMeta namedtuple NamedTuple TypedDict TYPE_CHECKING abstractmethod dataclass overload
    contextmanager _wall _WallAttr
""".split())


def sources():
    """The name, the text and the tree of each file of the package."""
    found = []
    for name in sorted(os.listdir(TOP)):
        if name != "__pycache__":
            with open(os.path.join(TOP, name), encoding="utf-8") as file:
                text = file.read()
            with warnings.catch_warnings():
                warnings.simplefilter("error")
                found.append((name, text, ast.parse(text, name)))
    return found


def docstrings(tree):
    """The nodes of the docstrings."""
    found = []
    for node in ast.walk(tree):
        if isinstance(node, (ast.Module, ast.ClassDef, ast.FunctionDef)) and node.body:
            first = node.body[0]
            if isinstance(first, ast.Expr) and isinstance(first.value, ast.Constant):
                found.append(first.value)
    return found


def bound_names(tree):
    """The names of variables, parameters, functions, classes and imports."""
    for node in ast.walk(tree):
        if isinstance(node, ast.Name) and not isinstance(node.ctx, ast.Load):
            yield node.id
        elif isinstance(node, ast.arg):
            yield node.arg
        elif isinstance(node, ast.alias):
            yield node.asname or node.name
        elif isinstance(node, ast.ClassDef):
            yield node.name
        elif isinstance(node, ast.ExceptHandler) and node.name:
            yield node.name


def top_names(tree):
    """The names that a file defines at its top."""
    found = []
    for node in tree.body:
        if isinstance(node, (ast.FunctionDef, ast.ClassDef)):
            found.append(node.name)
        elif isinstance(node, ast.Assign):
            found.append(node.targets[0].id)
    return found


class Language(unittest.TestCase):
    def setUp(self):
        self.files = sources()
        self.trees = {name: tree for name, _, tree in self.files}

    def nodes(self, kinds):
        for name, _, tree in self.files:
            for node in ast.walk(tree):
                if isinstance(node, kinds):
                    yield name, node

    def test_files(self):
        names = [name for name, _, _ in self.files]
        self.assertIn("__init__.py", names)
        self.assertLessEqual(len(names), 100)
        for name in names:
            self.assertRegex(name, r"^([a-z][a-z0-9_]*|__init__)\.py$")

    def test_characters_and_sizes(self):
        for name, text, tree in self.files:
            self.assertRegex(text, r"\A[ -~\n]*\Z", name)
            lines = text.split("\n")
            self.assertLess(len(lines), 400, name)
            self.assertLessEqual(max(len(line) for line in lines), 120, name)
        for name, node in self.nodes(ast.FunctionDef):
            self.assertLessEqual(node.end_lineno - node.lineno + 1, 40, (name, node.name))

    def test_imports(self):
        for name, node in self.nodes((ast.Import, ast.ImportFrom)):
            self.assertIsInstance(node, ast.ImportFrom, name)
            self.assertEqual(node.level, 0, name)
            self.assertIn(node, self.trees[name].body)
            names = {alias.name for alias in node.names}
            if node.module in LIBRARY:
                self.assertLessEqual(names, LIBRARY[node.module])
            else:
                package, file = node.module.split(".")
                self.assertEqual(package, "halfmeshes")
                self.assertLessEqual(names, set(top_names(self.trees[file + ".py"])))

    def test_no_circles_of_imports(self):
        wanted = {name: [node.module.split(".")[1] + ".py" for node in tree.body
                         if isinstance(node, ast.ImportFrom) and node.module not in LIBRARY]
                  for name, tree in self.trees.items()}
        self.assertEqual(wanted["__init__.py"], [])
        while wanted:
            free = [name for name in wanted if not set(wanted[name]) & set(wanted)]
            self.assertNotEqual(free, [], "files import each other")
            for name in free:
                del wanted[name]

    def test_top_of_files(self):
        for name, _, tree in self.files:
            docs = docstrings(tree)
            for node in tree.body:
                if isinstance(node, ast.Expr):
                    self.assertIn(node.value, docs, name)
                elif isinstance(node, ast.Assign):
                    self.assertEqual([type(one) for one in node.targets], [ast.Name], name)
                else:
                    self.assertIsInstance(
                        node, (ast.ImportFrom, ast.FunctionDef, ast.ClassDef), name)
            names = top_names(tree)
            self.assertEqual(len(set(names)), len(names), name)

    def test_statements_and_values(self):
        for name, node in self.nodes((ast.stmt, ast.expr)):
            place = (name, node.lineno)
            if isinstance(node, ast.stmt):
                self.assertIsInstance(node, NODES, place)
            self.assertNotIsInstance(node, (ast.Await, ast.AsyncFunctionDef), place)
            if isinstance(node, ast.BinOp):
                self.assertNotIsInstance(node.op, (ast.Div, ast.MatMult), place)
            if isinstance(node, ast.Constant):
                self.assertNotIsInstance(node.value, (float, complex), place)

    def test_strings(self):
        for name, text, tree in self.files:
            for node in ast.walk(tree):
                if isinstance(node, ast.Constant) and isinstance(node.value, str):
                    self.assertNotIn("%", node.value, (name, node.lineno))
                    self.assertNotRegex(node.value, r"\._{0,2}_$", (name, node.lineno))
            self.assertNotRegex(text, r"\\[^n\\'\"t]", name)

    def test_builtins(self):
        # Running examples binds _ among the builtins.
        known = set(dir(builtins)) - {"_"}
        for name, _, tree in self.files:
            self.assertEqual([one for one in bound_names(tree) if one in known], [], name)
            for node in tree.body:
                if isinstance(node, ast.FunctionDef):
                    self.assertNotIn(node.name, known, name)
            for node in ast.walk(tree):
                if isinstance(node, ast.Name) and node.id in known:
                    self.assertIn(node.id, BUILTINS, (name, node.lineno))

    def test_names(self):
        for name, text, tree in self.files:
            for one in bound_names(tree):
                self.assertRegex(one, r"^(_?[A-Za-z][A-Za-z0-9_]*|_)$", name)
                self.assertNotRegex(one, r"^_(wall|pe_|dcw_|enum_|cm_|twin_re_|lay_|law_|stub_|sre)")
                self.assertNotIn(one, BARRED, name)
            docs = docstrings(tree)
            bare = text
            for doc in docs:
                bare = bare.replace(ast.get_source_segment(text, doc), "")
            bare = re.sub(r"#.*", "", bare)
            self.assertEqual(set(re.findall(r"\w+", bare)) & WORDS, set(), name)

    def test_methods(self):
        own = {node.name for _, node in self.nodes(ast.FunctionDef)}
        for name, node in self.nodes(ast.Call):
            if isinstance(node.func, ast.Attribute):
                self.assertIn(node.func.attr, METHODS | own, (name, node.lineno))

    def test_loops_over_sets(self):
        for name, node in self.nodes((ast.For, ast.comprehension)):
            self.assertNotIsInstance(node.iter, (ast.Set, ast.SetComp), name)
            if isinstance(node.iter, ast.Call) and isinstance(node.iter.func, ast.Name):
                self.assertNotIn(node.iter.func.id, ("set", "frozenset"), name)

    def test_generator_expressions(self):
        # Mesh has an __eq__, so these functions take lists instead.
        for name, node in self.nodes(ast.Call):
            if isinstance(node.func, ast.Name) and node.func.id in (
                    "any", "all", "min", "max", "sum", "sorted"):
                for argument in node.args:
                    self.assertNotIsInstance(argument, ast.GeneratorExp, (name, node.lineno))

    def test_decorators(self):
        for name, node in self.nodes((ast.FunctionDef, ast.ClassDef)):
            for one in node.decorator_list:
                self.assertRegex(ast.unparse(one),
                                 r"^(property|staticmethod|classmethod|\w+\.setter)$", name)

    def test_attributes_are_assigned_somewhere(self):
        methods = {node.name for _, node in self.nodes(ast.FunctionDef)}
        written = {node.attr for _, node in self.nodes(ast.Attribute)
                   if not isinstance(node.ctx, ast.Load)}
        for name, node in self.nodes(ast.Attribute):
            if isinstance(node.ctx, ast.Load):
                self.assertIn(node.attr, methods | written | METHODS, (name, node.lineno))

    def test_names_of_attributes_and_classes(self):
        classes = [node for _, node in self.nodes(ast.ClassDef)]
        methods = {one.name for node in classes for one in node.body if isinstance(one, ast.FunctionDef)}
        for name, node in self.nodes(ast.Attribute):
            if not isinstance(node.ctx, ast.Load):
                self.assertNotIn(node.attr, BARRED_ATTRIBUTES | methods, (name, node.lineno))
        for node in classes:
            self.assertRegex(node.name, r"^[A-Z][A-Za-z]*$")
            own = [one.name for one in node.body if isinstance(one, ast.FunctionDef)]
            self.assertEqual(len(set(own)), len(own), node.name)
            if "__getitem__" in own:
                self.assertIn("__iter__", own)

    def test_no_local_name_is_that_of_a_class_or_import(self):
        for name, _, tree in self.files:
            outer = {node.name for node in tree.body if isinstance(node, ast.ClassDef)}
            outer |= {one.name for node in tree.body if isinstance(node, ast.ImportFrom) for one in node.names}
            for function in [node for node in ast.walk(tree) if isinstance(node, ast.FunctionDef)]:
                self.assertEqual(set(bound_names(function)) & outer, set(), (name, function.name))

    def test_loops_do_not_change_what_they_go_over(self):
        changing = ("append", "clear", "extend", "insert", "pop", "remove", "reverse", "setdefault", "update")
        for name, loop in self.nodes(ast.For):
            over = {ast.unparse(node) for node in ast.walk(loop.iter) if isinstance(node, (ast.Name, ast.Attribute))}
            for node in ast.walk(loop):
                if isinstance(node, ast.Call) and isinstance(node.func, ast.Attribute) and node.func.attr in changing:
                    self.assertNotIn(ast.unparse(node.func.value), over, (name, node.lineno))
                if isinstance(node, ast.Subscript) and not isinstance(node.ctx, ast.Load):
                    self.assertNotIn(ast.unparse(node.value), over, (name, node.lineno))

    def test_raise_and_except(self):
        for name, node in self.nodes(ast.Raise):
            if node.exc is not None:
                self.assertIsInstance(node.exc, ast.Call, (name, node.lineno))
                self.assertIsInstance(node.exc.func, ast.Name, (name, node.lineno))
        for name, node in self.nodes(ast.ExceptHandler):
            self.assertIsNotNone(node.type, (name, node.lineno))
            self.assertNotRegex(
                ast.unparse(node.type),
                r"\b(Exception|TypeError|ArithmeticError|OverflowError|RuntimeError)\b")


if __name__ == "__main__":
    unittest.main()
