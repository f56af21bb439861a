"""The rules of the language of the package that can be seen in its files: L1 to L28, the plainest part of each."""

import ast
import builtins
import os
import re
import unittest

PACKAGE = os.path.join(os.path.dirname(os.path.dirname(os.path.abspath(__file__))), "pagesworn")

BUILTINS = """len range enumerate zip min max sum abs sorted reversed int str bool list tuple dict set frozenset isinstance ord repr
    any all divmod pow ValueError KeyError IndexError LookupError ZeroDivisionError TypeError NotImplemented map iter next""".split()
METHODS = """append clear copy count endswith extend find get index insert isalnum isalpha isdigit islower isspace isupper items
    join keys ljust lower lstrip partition pop remove replace reverse rfind rjust rpartition rsplit rstrip setdefault split
    splitlines startswith strip update upper values zfill bit_length isascii isdecimal add discard""".split()
STATEMENTS = (ast.Assign, ast.AugAssign, ast.If, ast.While, ast.For, ast.Return, ast.Break, ast.Continue, ast.Pass, ast.Raise,
              ast.Assert, ast.Delete, ast.Try, ast.Expr, ast.FunctionDef, ast.ClassDef, ast.ImportFrom)
BARRED_NAMES = """register mro elements open input law version_info with_traceback add_note attrgetter breakpoint builtins compile
    copyright credits delattr dir eval exec exit gc globals help id importlib license locals methodcaller os quit setattr super
    type vars sys""".split()
BARRED_WORDS = re.compile(r"\b(type|typing|typing_extensions|enum|Enum|IntEnum|StrEnum|Flag|IntFlag|Generic|Protocol|ABC|ABCMeta"
                          r"|namedtuple|NamedTuple|TypedDict|TYPE_CHECKING|abstractmethod)\b|dataclass|overload|contextmanager")
ITERATED = ("zip", "enumerate", "reversed", "range", "map")
LIBRARY = ("heapq", "math", "itertools", "collections")


def files():
    found = []
    for folder, _, names in os.walk(PACKAGE):
        if os.path.basename(folder) != "__pycache__":
            found += [os.path.join(folder, name) for name in sorted(names)]
    return found


def module_of(path):
    return "pagesworn." + os.path.basename(path)[:-3]


class Language(unittest.TestCase):
    def setUp(self):
        self.texts = {}
        for path in files():
            with open(path, encoding="utf-8", newline="") as file:
                self.texts[path] = file.read()
        self.trees = {path: ast.parse(text) for path, text in self.texts.items()}

    def nodes(self, *kinds):
        for path, tree in self.trees.items():
            for node in ast.walk(tree):
                if isinstance(node, kinds):
                    yield path, node

    def holds(self, truth, path, node, rule):
        self.assertTrue(truth, f"{os.path.basename(path)}:{getattr(node, 'lineno', 0)}: {rule}")

    def test_files_and_characters(self):
        for path, text in self.texts.items():
            self.assertRegex(os.path.basename(path), r"^[a-z_0-9]+\.py$", "L1, L14")
            self.assertRegex(text, r"\A[ -~\n]*\Z", "L14")
            self.assertLess(len(text.splitlines()), 400, "L10")
            for number, line in enumerate(text.splitlines(), 1):
                self.assertLessEqual(len(line), 120, f"L10: {path}:{number}")

    def test_functions_are_short_and_plain(self):
        for path, node in self.nodes(ast.FunctionDef):
            self.holds(node.end_lineno - node.lineno < 40, path, node, "L10")
            self.holds(not node.decorator_list and node.returns is None, path, node, "L4, L21")
        for path, node in self.nodes(ast.Lambda):
            self.holds(len(node.args.args) == 1 and not node.args.defaults, path, node, "L22")

    def test_module_level(self):
        for path, tree in self.trees.items():
            bound = []
            for at, node in enumerate(tree.body):
                plain = isinstance(node, (ast.ImportFrom, ast.FunctionDef, ast.ClassDef))
                docstring = at == 0 and isinstance(node, ast.Expr) and isinstance(node.value, ast.Constant)
                table = isinstance(node, ast.Assign) and len(node.targets) == 1 and isinstance(node.targets[0], ast.Name)
                self.holds(plain or docstring or table, path, node, "L3")
                bound += [name.asname or name.name for name in node.names] if isinstance(node, ast.ImportFrom) else []
                bound += [node.name] if isinstance(node, (ast.FunctionDef, ast.ClassDef)) else []
                bound += [node.targets[0].id] if table else []
                if table and isinstance(node.value, (ast.Dict, ast.List, ast.Tuple)):
                    inner = [part for part in ast.walk(node.value) if part is not node.value]
                    self.holds(not any(isinstance(part, (ast.Dict, ast.List, ast.Call)) for part in inner), path, node, "L3, L15")
            self.assertEqual(len(bound), len(set(bound)), f"L15: {path}")

    def test_imports(self):
        edges = {module_of(path): [] for path in self.trees}
        for path, node in self.nodes(ast.Import, ast.ImportFrom):
            good = isinstance(node, ast.ImportFrom) and node.level == 0
            self.holds(good and node in self.trees[path].body, path, node, "L2")
            if node.module in LIBRARY:
                continue
            self.holds(node.module in edges, path, node, "L2")
            edges[module_of(path)].append(node.module)
            other = self.trees[os.path.join(PACKAGE, node.module.split(".")[1] + ".py")]
            defined = [part.name for part in other.body if isinstance(part, (ast.FunctionDef, ast.ClassDef))]
            defined += [part.targets[0].id for part in other.body if isinstance(part, ast.Assign)]
            for name in node.names:
                self.holds(name.name in defined and name.asname is None, path, node, "L16")
        while edges:
            free = [name for name in edges if not any(other in edges for other in edges[name])]
            self.assertTrue(free, f"L16: {sorted(edges)}")
            edges = {name: edges[name] for name in edges if name not in free}

    def test_statements_and_expressions(self):
        for path, node in self.nodes(ast.stmt):
            self.holds(isinstance(node, STATEMENTS), path, node, "L6")
        for path, node in self.nodes(ast.Div, ast.GeneratorExp, ast.Yield, ast.Await, ast.AnnAssign, ast.Global):
            self.holds(False, path, node, "L6, L7")
        for path, node in self.nodes(ast.Constant):
            self.holds(not isinstance(node.value, (float, complex)), path, node, "L7")
            if isinstance(node.value, str):
                self.holds("%" not in node.value, path, node, "L27")
        for path, node in self.nodes(ast.Compare):
            for operator, other in zip(node.ops, node.comparators):
                if isinstance(operator, (ast.Is, ast.IsNot)):
                    self.holds(isinstance(other, ast.Constant) and other.value in (None, True, False), path, node, "L20")

    def test_names(self):
        known = set(dir(builtins)) - {"_"}
        for path, tree in self.trees.items():
            imports = {name.name for node in tree.body if isinstance(node, ast.ImportFrom) for name in node.names}
            classes = {node.name for node in tree.body if isinstance(node, ast.ClassDef)}
            for node in ast.walk(tree):
                bound = self.bound(node)
                for name in bound:
                    self.holds(name not in known and name not in BARRED_NAMES, path, node, f"L15, L17: {name}")
                    self.holds(name not in imports and name not in (classes if not isinstance(node, ast.ClassDef) else ()),
                               path, node, f"L15: {name}")
                if isinstance(node, ast.Name) and isinstance(node.ctx, ast.Load) and node.id in known:
                    self.holds(node.id in BUILTINS, path, node, f"L8: {node.id}")
                if isinstance(node, ast.Name) and isinstance(node.ctx, ast.Load):
                    self.holds(node.id != "_", path, node, "L12")

    def bound(self, node):
        if isinstance(node, ast.Name) and isinstance(node.ctx, ast.Store):
            return [node.id]
        if isinstance(node, ast.arg):
            return [node.arg]
        if isinstance(node, (ast.FunctionDef, ast.ClassDef)) and not node.name.startswith("__"):
            return [node.name]
        return []

    def test_words(self):
        for path, node in self.nodes(ast.Constant):
            if isinstance(node.value, str) and not self.is_docstring(path, node):
                self.holds(not BARRED_WORDS.search(node.value.replace("type", "")), path, node, "L17")
        for path, node in self.nodes(ast.Name, ast.Attribute, ast.arg, ast.FunctionDef, ast.ClassDef, ast.keyword):
            name = getattr(node, "id", None) or getattr(node, "attr", None) or getattr(node, "name", None) or node.arg
            self.holds(not BARRED_WORDS.search(name or ""), path, node, "L17")

    def is_docstring(self, path, node):
        for part in ast.walk(self.trees[path]):
            if isinstance(part, (ast.Module, ast.FunctionDef, ast.ClassDef)) and part.body:
                first = part.body[0]
                if isinstance(first, ast.Expr) and first.value is node:
                    return True
        return False

    def test_calls(self):
        for path, node in self.nodes(ast.Call):
            if isinstance(node.func, ast.Attribute):
                own = isinstance(node.func.value, ast.Name) and node.func.value.id == "self"
                self.holds(own or node.func.attr in METHODS or self.is_own_method(node.func.attr), path, node, "L25")
            else:
                self.holds(isinstance(node.func, ast.Name), path, node, "L3, L7")
            for keyword in node.keywords:
                self.holds(keyword.arg in ("key", "default", "reverse", "start", "strict"), path, node, "L22")

    def is_own_method(self, name):
        return any(part.name == name for _, node in self.nodes(ast.ClassDef) for part in node.body if isinstance(part, ast.FunctionDef))

    def test_iterated_at_once(self):
        for path, tree in self.trees.items():
            for node in ast.walk(tree):
                for field, value in ast.iter_fields(node):
                    parts = value if isinstance(value, list) else [value]
                    for part in parts:
                        if isinstance(part, ast.Call) and isinstance(part.func, ast.Name) and part.func.id in ITERATED:
                            loops = isinstance(node, (ast.For, ast.comprehension)) and field == "iter"
                            within = isinstance(node, (ast.Call, ast.Compare))
                            self.holds(loops or within, path, part, "L23")

    def test_errors_are_made_on_the_spot(self):
        for path, node in self.nodes(ast.Raise):
            self.holds(isinstance(node.exc, ast.Call) and isinstance(node.exc.func, ast.Name), path, node, "L19")
        for path, node in self.nodes(ast.ExceptHandler):
            self.holds(isinstance(node.type, (ast.Name, ast.Tuple)), path, node, "L6")

    def test_only_own_errors_are_caught(self):
        own = [node.name for _, node in self.nodes(ast.ClassDef)]
        for path, node in self.nodes(ast.ExceptHandler):
            names = node.type.elts if isinstance(node.type, ast.Tuple) else [node.type]
            self.holds(all(name.id in own + ["KeyError"] for name in names) and node.name is None, path, node, "L19")

    def test_methods_and_attributes_have_names_of_their_own(self):
        attributes = {node.attr for _, node in self.nodes(ast.Attribute) if isinstance(node.ctx, ast.Store)}
        for path, node in self.nodes(ast.ClassDef):
            methods = [part.name for part in node.body if isinstance(part, ast.FunctionDef)]
            self.holds(len(methods) == len(set(methods)) and not set(methods) & attributes, path, node, "L18")
        read = {node.attr for _, node in self.nodes(ast.Attribute) if isinstance(node.ctx, ast.Load)}
        for name in read - attributes:
            self.assertTrue(self.is_own_method(name) or name in METHODS + ["__init__"], f"L18: {name}")

    def test_double_underscore_methods(self):
        for path, node in self.nodes(ast.FunctionDef):
            if node.name.startswith("__"):
                returns = [part for part in ast.walk(node) if isinstance(part, ast.Return)]
                self.holds(node.name in ("__init__", "__eq__"), path, node, "L5")
                self.holds(returns == [] if node.name == "__init__" else returns == node.body, path, node, "L28")

    def test_modules_stand_in_their_order(self):
        """Each file imports only from those that DOC.md lists above it."""
        order = """errors forms forests leastforms flat deeds wishes webs flows cuts need keptflow inside grants refusals worths
            spreads children tables layouts machine texts runs kernel desk""".split()
        for path, node in self.nodes(ast.ImportFrom):
            if node.module.startswith("pagesworn."):
                own = os.path.basename(path)[:-3]
                self.holds(order.index(node.module.split(".")[1]) < order.index(own), path, node, "the interface")
