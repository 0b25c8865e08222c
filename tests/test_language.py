"""The files of the package keep to the subset of the language: the rules that a plain look can tell."""

import ast
import builtins
import os
import unittest

ROOT = os.path.dirname(os.path.dirname(os.path.abspath(__file__)))
PACKAGE = os.path.join(ROOT, "weavestore")

LIBRARY = {
    "heapq": {"heappush", "heappop", "heapify", "heapreplace", "heappushpop"},
    "math": {"gcd", "lcm", "isqrt", "comb", "perm", "factorial"},
    "itertools": {
        "product", "combinations", "permutations", "chain", "accumulate", "pairwise", "islice", "zip_longest",
    },
    "collections": {"defaultdict"},
    "__future__": {"annotations"},
}
BUILTINS = set(
    "len range enumerate zip min max sum abs sorted reversed int str bool bytes list tuple dict set frozenset "
    "isinstance ord repr any all divmod pow getattr hasattr setattr iter next map super Exception ValueError TypeError "
    "KeyError IndexError LookupError ZeroDivisionError ArithmeticError OverflowError RuntimeError "
    "NotImplementedError AttributeError StopIteration NotImplemented property staticmethod classmethod object".split()
)
METHODS = set(
    "append clear copy count endswith extend find get index insert isalnum isalpha isdigit islower isspace isupper "
    "items join keys ljust lower lstrip partition pop remove replace reverse rfind rjust rpartition rsplit rstrip "
    "setdefault split splitlines startswith strip update upper values zfill bit_length title capitalize swapcase "
    "casefold center expandtabs removeprefix removesuffix rindex isascii isdecimal isnumeric istitle isidentifier "
    "isprintable translate encode decode hex format add discard __init__".split()
)
DUNDERS = {"__init__", "__eq__", "__repr__", "__str__", "__len__", "__enter__", "__exit__", "__call__", "__iter__"}
BARRED_NAMES = set(
    "register mro elements open input law version_info with_traceback add_note attrgetter breakpoint builtins compile "
    "copyright credits delattr dir eval exec exit gc globals help id importlib license locals methodcaller os quit "
    "type vars".split()
)
BARRED_WORDS = set(
    "type typing typing_extensions enum Enum IntEnum StrEnum Flag IntFlag Generic Protocol ABC ABCMeta namedtuple "
    "NamedTuple TypedDict TYPE_CHECKING abstractmethod _wall _WallAttr".split()
)
ONCE = {"zip", "enumerate", "reversed", "map"}
TAKERS = {"list", "tuple", "dict", "sorted", "sum", "any", "all", "enumerate", "zip", "min", "max", "join"}


def files():
    return sorted(os.listdir(PACKAGE))


def text_of(name):
    with open(os.path.join(PACKAGE, name), encoding="utf-8") as handle:
        return handle.read()


def tree_of(name):
    tree = ast.parse(text_of(name))
    for node in ast.walk(tree):
        for child in ast.iter_child_nodes(node):
            child.parent = node
    return tree


def python_files():
    return [name for name in files() if name.endswith(".py")]


def docstrings(tree):
    found = set()
    for node in ast.walk(tree):
        if isinstance(node, (ast.Module, ast.ClassDef, ast.FunctionDef)) and ast.get_docstring(node) is not None:
            found.add(node.body[0].value)
    return found


def called(node):
    if isinstance(node, ast.Call) and isinstance(node.func, ast.Name):
        return node.func.id
    if isinstance(node, ast.Call) and isinstance(node.func, ast.Attribute):
        return node.func.attr
    return None


def own_methods():
    found = set()
    for name in python_files():
        for node in ast.walk(tree_of(name)):
            if isinstance(node, ast.ClassDef):
                found |= {part.name for part in node.body if isinstance(part, ast.FunctionDef)}
    return found


def bound_in(function):
    found = [part.arg for part in ast.walk(function.args) if isinstance(part, ast.arg)]
    for node in ast.walk(function):
        if isinstance(node, ast.Name) and not isinstance(node.ctx, ast.Load):
            found.append(node.id)
    return found


class LanguageTest(unittest.TestCase):
    def each(self):
        for name in python_files():
            yield name, tree_of(name)

    def test_the_folder_holds_plain_python_files_alone(self):
        for name in files():
            if name != "__pycache__":
                self.assertRegex(name, r"^(__init__|__main__|[a-z][a-z0-9_]*)\.py$")
        self.assertLessEqual(len(python_files()), 100)

    def test_sizes_and_signs(self):
        for name, tree in self.each():
            text = text_of(name)
            self.assertTrue(all(sign == "\n" or " " <= sign <= "~" for sign in text))
            self.assertLessEqual(len(text.splitlines()), 399)
            self.assertLessEqual(max(len(line) for line in text.splitlines()), 120)
            for node in ast.walk(tree):
                if isinstance(node, ast.FunctionDef):
                    self.assertLessEqual(node.end_lineno - node.lineno + 1, 40, node.name)

    def test_imports(self):
        known = {}
        for name, tree in self.each():
            known[name] = {part.name for part in tree.body if isinstance(part, (ast.FunctionDef, ast.ClassDef))}
            known[name] |= {part.targets[0].id for part in tree.body if isinstance(part, ast.Assign)}
        for name, tree in self.each():
            for node in ast.walk(tree):
                self.assertNotIsInstance(node, ast.Import)
                if isinstance(node, ast.ImportFrom):
                    self.assertIs(node.parent, tree)
                    self.assertEqual(node.level, 0)
                    for part in node.names:
                        self.assertIsNone(part.asname)
                        if node.module in LIBRARY:
                            self.assertIn(part.name, LIBRARY[node.module])
                        else:
                            package, module = node.module.split(".")
                            self.assertEqual(package, "weavestore")
                            self.assertIn(part.name, known[module + ".py"])

    def test_no_two_files_import_from_each_other(self):
        ahead = {}
        for name, tree in self.each():
            modules = [node.module for node in tree.body if isinstance(node, ast.ImportFrom)]
            ahead[name] = [module.split(".")[1] + ".py" for module in modules if module.startswith("weavestore.")]
        done = []
        while len(done) < len(ahead):
            free = [name for name in ahead if name not in done and all(other in done for other in ahead[name])]
            self.assertTrue(free, sorted(set(ahead) - set(done)))
            done += free

    def test_no_import_is_without_use(self):
        for name, tree in self.each():
            used = {node.id for node in ast.walk(tree) if isinstance(node, ast.Name)}
            for node in tree.body:
                if isinstance(node, ast.ImportFrom):
                    for part in node.names:
                        self.assertIn(part.name, used)

    def test_module_level(self):
        for name, tree in self.each():
            names = []
            for at, node in enumerate(tree.body):
                if isinstance(node, ast.Expr):
                    self.assertEqual(at, 0)
                elif isinstance(node, ast.Assign):
                    self.assertEqual(len(node.targets), 1)
                    names.append(node.targets[0].id)
                    for part in ast.walk(node.value):
                        self.assertNotIsInstance(part, (ast.Call, ast.ListComp, ast.DictComp, ast.Set, ast.Lambda))
                elif isinstance(node, ast.ImportFrom):
                    names.extend(part.name for part in node.names)
                else:
                    self.assertIsInstance(node, (ast.FunctionDef, ast.ClassDef))
                    names.append(node.name)
            self.assertEqual(len(names), len(set(names)))

    def test_statements_and_expressions(self):
        barred = (
            ast.Global, ast.AsyncFunctionDef, ast.AsyncFor, ast.AsyncWith, ast.Await, ast.Div, ast.MatMult,
            ast.AnnAssign, ast.GeneratorExp, ast.NamedExpr,
        )
        for name, tree in self.each():
            for node in ast.walk(tree):
                self.assertNotIsInstance(node, barred)
                if isinstance(node, (ast.FunctionDef, ast.ClassDef)):
                    self.assertEqual(node.decorator_list, [])
                if isinstance(node, ast.ExceptHandler):
                    self.assertIsNotNone(node.type)
                if isinstance(node, ast.Pow):
                    self.assertIsInstance(node.parent.right, ast.Constant)
                if isinstance(node, ast.Compare):
                    for sign, right in zip(node.ops, node.comparators):
                        if isinstance(sign, (ast.Is, ast.IsNot)):
                            self.assertIsInstance(right, ast.Constant)

    def test_literals(self):
        for name, tree in self.each():
            told = docstrings(tree)
            for node in ast.walk(tree):
                if isinstance(node, ast.Constant):
                    self.assertNotIsInstance(node.value, (float, complex, bytes))
                    if isinstance(node.value, str):
                        self.assertNotIn("%", node.value)
                        self.assertFalse(node.value.endswith(("._", ".__")))
                        if node not in told:
                            words = set(node.value.replace(".", " ").split())
                            self.assertFalse(words & BARRED_WORDS - {"type"})

    def test_classes(self):
        for name, tree in self.each():
            for node in ast.walk(tree):
                if isinstance(node, ast.ClassDef):
                    self.assertIs(node.parent, tree)
                    methods = [part.name for part in node.body if isinstance(part, ast.FunctionDef)]
                    self.assertEqual(len(methods), len(set(methods)))
                    for method in methods:
                        self.assertTrue(not method.startswith("__") or method in DUNDERS)
                    stored = {
                        part.attr for part in ast.walk(node)
                        if isinstance(part, ast.Attribute) and isinstance(part.ctx, ast.Store)
                    }
                    self.assertFalse(stored & set(methods))

    def test_names(self):
        own = {name for name in dir(builtins)}
        for name, tree in self.each():
            fixed = {part.name for node in tree.body if isinstance(node, ast.ImportFrom) for part in node.names}
            fixed |= {node.name for node in tree.body if isinstance(node, ast.ClassDef)}
            for node in ast.walk(tree):
                if isinstance(node, (ast.FunctionDef, ast.ClassDef, ast.arg, ast.Name, ast.Attribute, ast.keyword)):
                    word = getattr(node, "name", getattr(node, "arg", getattr(node, "id", getattr(node, "attr", ""))))
                    self.assertNotIn(word, BARRED_NAMES | BARRED_WORDS)
                if isinstance(node, ast.FunctionDef):
                    for word in bound_in(node):
                        self.assertNotIn(word, own | fixed)
                        self.assertTrue(word == "_" or not word.startswith("__"))
                if isinstance(node, ast.Name) and isinstance(node.ctx, ast.Load):
                    self.assertNotEqual(node.id, "_")

    def test_builtins_and_methods(self):
        methods = METHODS | own_methods()
        for name, tree in self.each():
            for node in ast.walk(tree):
                if isinstance(node, ast.Name) and isinstance(node.ctx, ast.Load) and hasattr(builtins, node.id):
                    self.assertIn(node.id, BUILTINS)
                if isinstance(node, ast.Call) and isinstance(node.func, ast.Attribute):
                    self.assertIn(node.func.attr, methods)
                    self.assertNotEqual(node.func.attr, "sort")
                if isinstance(node, ast.Call) and called(node) in BUILTINS:
                    for part in node.keywords:
                        self.assertIn(part.arg, {"key", "reverse", "default", "start", "strict"})

    def test_what_is_iterated_at_once(self):
        for name, tree in self.each():
            for node in ast.walk(tree):
                view = isinstance(node, ast.Call) and isinstance(node.func, ast.Attribute)
                view = view and node.func.attr in {"items", "keys", "values"}
                if called(node) in ONCE or view:
                    at = node.parent
                    fine = isinstance(at, (ast.For, ast.comprehension)) and at.iter is node
                    self.assertTrue(fine or called(at) in TAKERS, (name, node.lineno))

    def test_sets(self):
        for name, tree in self.each():
            for node in ast.walk(tree):
                if isinstance(node, (ast.Set, ast.SetComp)) or called(node) == "set":
                    at = node.parent
                    fine = isinstance(at, ast.Compare) or called(at) in {"sorted", "len"}
                    fine = fine or (isinstance(at, ast.Assign) and isinstance(at.targets[0], ast.Name))
                    self.assertTrue(fine, (name, node.lineno))

    def test_what_is_gone_over_is_not_changed(self):
        changing = {"append", "clear", "extend", "insert", "pop", "remove", "reverse", "setdefault", "update"}
        for name, tree in self.each():
            for loop in ast.walk(tree):
                if isinstance(loop, ast.For):
                    over = {part.id for part in ast.walk(loop.iter) if isinstance(part, ast.Name)}
                    for node in ast.walk(loop):
                        if called(node) in changing and isinstance(node.func.value, ast.Name):
                            self.assertNotIn(node.func.value.id, over, (name, node.lineno))
                        if isinstance(node, ast.Subscript) and isinstance(node.ctx, (ast.Store, ast.Del)):
                            copied = any(called(part) in {"list", "sorted", "range"} for part in ast.walk(loop.iter))
                            if isinstance(node.value, ast.Name) and not copied:
                                self.assertNotIn(node.value.id, over, (name, node.lineno))

    def test_error_classes_are_named_where_they_are_raised_or_caught(self):
        for name, tree in self.each():
            errors = {part.name for node in tree.body if isinstance(node, ast.ImportFrom)
                      and node.module == "weavestore.errors" for part in node.names}
            for node in ast.walk(tree):
                if isinstance(node, ast.Name) and node.id in errors:
                    call = node.parent
                    raised = isinstance(call, ast.Call) and isinstance(call.parent, ast.Raise)
                    caught = call.parent if isinstance(call, ast.Tuple) else call
                    self.assertTrue(raised or isinstance(caught, ast.ExceptHandler), node.lineno)


if __name__ == "__main__":
    unittest.main()
