"""Rules of the language that can be seen in the code of the package."""

import ast
import builtins
import os
import re
import unittest
import warnings

FOLDER = os.path.join(os.path.dirname(os.path.dirname(os.path.abspath(__file__))), "shiftroads")
BUILTINS = set(
    "len range enumerate zip min max sum abs sorted reversed int str bool bytes list tuple dict set isinstance ord repr "
    "any all divmod".split()
)
METHODS = set(
    "append clear copy count endswith extend find get index insert isalnum isalpha isdigit islower isspace isupper items "
    "join keys ljust lower lstrip partition pop remove replace reverse rfind rjust rpartition rsplit rstrip setdefault "
    "split splitlines startswith strip update upper values zfill bit_length add discard isascii".split()
)
BARRED_NAMES = set(
    "register mro elements open input law version_info with_traceback add_note attrgetter breakpoint builtins compile "
    "copyright credits delattr dir eval exec exit gc getattr globals hasattr help id importlib license locals "
    "methodcaller os quit setattr super type vars sys".split()
)
BARRED_WORDS = set(
    "type typing typing_extensions enum Enum IntEnum StrEnum Flag IntFlag Generic Protocol ABC ABCMeta namedtuple "
    "NamedTuple TypedDict TYPE_CHECKING abstractmethod dataclass overload contextmanager".split()
)
STATEMENTS = (
    ast.Assign, ast.AugAssign, ast.If, ast.While, ast.For, ast.Return, ast.Break, ast.Continue, ast.Pass, ast.Raise,
    ast.Expr, ast.FunctionDef, ast.ClassDef, ast.ImportFrom, ast.Delete, ast.Try,
)
LIBRARY = (("heapq", "heappop"), ("heapq", "heappush"))
TAKES_GENERATOR = ("list", "tuple", "dict", "sorted", "sum", "min", "max", "any", "all")
ON_THE_SPOT = ("zip", "enumerate", "reversed", "range")


def files():
    return sorted(name for name in os.listdir(FOLDER) if name != "__pycache__")


def text_of(name):
    with open(os.path.join(FOLDER, name), encoding="utf-8") as file:
        return file.read()


def parsed():
    return [(name, ast.parse(text_of(name))) for name in files()]


def all_imports_of(tree):
    return [(node.module, alias.name) for node in tree.body if isinstance(node, ast.ImportFrom) for alias in node.names]


def imports_of(tree):
    """The imports from the package, without those of the library."""
    return [(module, name) for module, name in all_imports_of(tree) if (module, name) not in LIBRARY]


def defined_in(tree):
    names = [node.name for node in tree.body if isinstance(node, (ast.FunctionDef, ast.ClassDef))]
    return names + [node.targets[0].id for node in tree.body if isinstance(node, ast.Assign)]


def assigned_in(function):
    names = [argument.arg for argument in function.args.args]
    return names + [node.id for node in ast.walk(function) if isinstance(node, ast.Name) and isinstance(node.ctx, ast.Store)]


class Language(unittest.TestCase):
    def test_files(self):
        self.assertIn("__init__.py", files())
        for name in files():
            self.assertRegex(name, r"\A[a-z_]+\.py\Z")
            text = text_of(name)
            rows = text.split("\n")
            self.assertLessEqual(len(rows), 400, name)
            self.assertTrue(all(len(row) <= 120 for row in rows), name)
            self.assertTrue(all(sign == "\n" or " " <= sign <= "~" for sign in text), name)

    def test_no_warnings(self):
        for name in files():
            with warnings.catch_warnings():
                warnings.simplefilter("error")
                compile(text_of(name), name, "exec")

    def test_functions_are_short(self):
        for name, tree in parsed():
            for node in ast.walk(tree):
                if isinstance(node, ast.FunctionDef):
                    self.assertLessEqual(node.end_lineno - node.lineno + 1, 40, (name, node.name))
                    self.assertEqual(node.decorator_list, [])
                    self.assertIsNotNone(ast.get_docstring(node) or node.name == "__init__" or None, (name, node.name))

    def test_module_level(self):
        for name, tree in parsed():
            self.assertIsInstance(ast.get_docstring(tree), str)
            for node in tree.body[1:]:
                self.assertIsInstance(node, (ast.ImportFrom, ast.FunctionDef, ast.ClassDef, ast.Assign), name)
                if isinstance(node, ast.Assign):
                    eval(compile(ast.Expression(node.value), name, "eval"), {"__builtins__": {}})
            names = defined_in(tree) + [imported for _, imported in all_imports_of(tree)]
            self.assertEqual(len(set(names)), len(names), name)

    def test_imports(self):
        trees = dict(parsed())
        leads = {}
        for name, tree in trees.items():
            leads[name] = set()
            for module, imported in imports_of(tree):
                self.assertRegex(module, r"\Ashiftroads\.[a-z]+\Z")
                self.assertIn(imported, defined_in(trees[module.split(".")[1] + ".py"]), name)
                leads[name].add(module.split(".")[1] + ".py")
        while leads:
            ends = [name for name in leads if not leads[name] & set(leads)]
            self.assertTrue(ends, "files import from each other")
            for name in ends:
                del leads[name]

    def test_imported_names_are_used(self):
        for name, tree in parsed():
            used = {node.id for node in ast.walk(tree) if isinstance(node, ast.Name)}
            for _, imported in all_imports_of(tree):
                self.assertIn(imported, used, name)

    def test_names(self):
        for name, tree in parsed():
            classes = [node.name for node in tree.body if isinstance(node, ast.ClassDef)]
            barred = (set(dir(builtins)) - {"_"}) | BARRED_NAMES | set(classes)
            barred |= {imported for _, imported in all_imports_of(tree)}
            for node in ast.walk(tree):
                if isinstance(node, ast.FunctionDef):
                    for local in assigned_in(node):
                        self.assertNotIn(local, barred, (name, node.name))
                    self.assertNotIn(node.name, (set(dir(builtins)) - {"_"}) | BARRED_NAMES, name)

    def test_nodes(self):
        for name, tree in parsed():
            for node in ast.walk(tree):
                if isinstance(node, ast.stmt):
                    self.assertIsInstance(node, STATEMENTS, (name, node.lineno))
                self.assertNotIsInstance(node, (ast.Div, ast.Lambda, ast.NamedExpr, ast.Starred), name)
                if isinstance(node, ast.Constant):
                    self.assertNotIsInstance(node.value, (float, complex), name)
                if isinstance(node, ast.Constant) and isinstance(node.value, str):
                    self.assertNotIn("%", node.value, name)
                if isinstance(node, ast.Raise):
                    self.assertIsInstance(node.exc, ast.Call, name)
                if isinstance(node, ast.Compare) and isinstance(node.ops[0], (ast.Is, ast.IsNot)):
                    self.assertIn(ast.unparse(node.comparators[0]), ("None", "True", "False"), name)

    def test_calls(self):
        methods = set()
        for _, tree in parsed():
            for node in ast.walk(tree):
                if isinstance(node, ast.ClassDef):
                    methods |= {part.name for part in node.body if isinstance(part, ast.FunctionDef)}
        for name, tree in parsed():
            own = set(defined_in(tree)) | {imported for _, imported in all_imports_of(tree)}
            for node in ast.walk(tree):
                if not isinstance(node, ast.Call):
                    continue
                if node.keywords:
                    self.assertEqual([word.arg for word in node.keywords], ["default"], (name, node.lineno))
                    self.assertIn(ast.unparse(node.func), ("min", "max"), (name, node.lineno))
                    self.assertEqual(len(node.args), 1, (name, node.lineno))
                if isinstance(node.func, ast.Name):
                    self.assertIn(node.func.id, own | BUILTINS, (name, node.lineno))
                else:
                    self.assertIsInstance(node.func, ast.Attribute, (name, node.lineno))
                    self.assertIn(node.func.attr, METHODS | methods, (name, node.lineno))

    def test_iterated_at_once(self):
        for name, tree in parsed():
            fine = set()
            for node in ast.walk(tree):
                if isinstance(node, (ast.For, ast.comprehension)):
                    fine.add(id(node.iter))
                if isinstance(node, ast.Call) and isinstance(node.func, ast.Name):
                    if node.func.id in TAKES_GENERATOR + ("enumerate", "zip"):
                        fine |= {id(argument) for argument in node.args}
            for node in ast.walk(tree):
                if isinstance(node, ast.GeneratorExp):
                    self.assertIn(id(node), fine, (name, node.lineno))
                if isinstance(node, ast.Call) and isinstance(node.func, ast.Name) and node.func.id in ON_THE_SPOT:
                    self.assertIn(id(node), fine, (name, node.lineno))
                if isinstance(node, ast.Call) and isinstance(node.func, ast.Attribute):
                    if node.func.attr in ("items", "keys", "values"):
                        self.assertIn(id(node), fine, (name, node.lineno))

    def test_sets(self):
        for name, tree in parsed():
            fine = set()
            for node in ast.walk(tree):
                if isinstance(node, ast.Call) and isinstance(node.func, ast.Name) and node.func.id in ("sorted", "len"):
                    fine |= {id(argument) for argument in node.args}
                if isinstance(node, ast.Assign) and isinstance(node.targets[0], ast.Name):
                    fine.add(id(node.value))
                if isinstance(node, ast.Compare):
                    fine |= {id(other) for other in node.comparators}
            for node in ast.walk(tree):
                is_call = isinstance(node, ast.Call) and isinstance(node.func, ast.Name) and node.func.id == "set"
                if is_call or isinstance(node, (ast.Set, ast.SetComp)):
                    self.assertIn(id(node), fine, (name, node.lineno))

    def test_loops_leave_what_they_go_over(self):
        for name, tree in parsed():
            for loop in ast.walk(tree):
                if isinstance(loop, ast.For):
                    over = {node.id for node in ast.walk(loop.iter) if isinstance(node, ast.Name)}
                    for node in ast.walk(loop):
                        if isinstance(node, ast.Call) and isinstance(node.func, ast.Attribute):
                            if node.func.attr in ("append", "extend", "pop", "remove", "insert", "clear", "update"):
                                self.assertNotIn(ast.unparse(node.func.value), over, (name, node.lineno))

    def test_words(self):
        for name in files():
            tree = ast.parse(text_of(name))
            for node in ast.walk(tree):
                if isinstance(node, (ast.Module, ast.ClassDef, ast.FunctionDef)) and ast.get_docstring(node):
                    node.body[0].value.value = ""
            words = set(re.findall("[A-Za-z_]+", ast.unparse(tree)))
            self.assertEqual(words & BARRED_WORDS, set(), name)
            self.assertFalse(any(word.startswith("__") and word != "__init__" for word in words), name)

    def test_methods_are_not_views(self):
        for name, tree in parsed():
            for node in ast.walk(tree):
                if isinstance(node, ast.FunctionDef):
                    self.assertNotIn(node.name, ("items", "keys", "values"), name)

    def test_library_is_only_called(self):
        for name, tree in parsed():
            library = [imported for module, imported in all_imports_of(tree) if (module, imported) in LIBRARY]
            called = {id(node.func) for node in ast.walk(tree) if isinstance(node, ast.Call)}
            for node in ast.walk(tree):
                if isinstance(node, ast.Name) and node.id in library:
                    self.assertIn(id(node), called, (name, node.lineno))

    def test_no_method_is_an_attribute(self):
        methods, attributes = set(), set()
        for _, tree in parsed():
            for node in ast.walk(tree):
                if isinstance(node, ast.ClassDef):
                    methods |= {part.name for part in node.body if isinstance(part, ast.FunctionDef)}
                if isinstance(node, ast.Attribute) and isinstance(node.ctx, ast.Store):
                    attributes.add(node.attr)
        self.assertEqual(methods & attributes, set())


if __name__ == "__main__":
    unittest.main()
