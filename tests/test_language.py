"""Holds the package's files against the rules L1 to L28 of the language, where needed more narrowly than they say."""

import ast
import builtins
import keyword
import pathlib
import re
import unittest

ROOT = pathlib.Path(__file__).resolve().parent.parent
PACKAGE = ROOT / "spantolls"

CALLED = """len range enumerate zip min max sum abs sorted reversed int str bool list tuple dict set frozenset
    isinstance ord repr any all divmod""".split()
PYTHON_ERRORS = """Exception ValueError TypeError KeyError IndexError LookupError ZeroDivisionError ArithmeticError
    OverflowError RuntimeError NotImplementedError AttributeError StopIteration""".split()
TAKEN_ERRORS = ["KeyError", "ZeroDivisionError", "StopIteration", "ValueError", "LookupError", "IndexError"]
METHODS = """append clear copy count endswith extend find get index insert isalnum isalpha isdigit islower isspace
    isupper items join keys ljust lower lstrip partition pop remove replace reverse rfind rjust rpartition rsplit rstrip
    setdefault split splitlines startswith strip update upper values zfill bit_length""".split()
SPECIAL = ["__init__", "__eq__", "__repr__", "__str__", "__len__"]
NOWHERE = "register mro elements open input version_info with_traceback add_note format format_map".split()
NOT_NAMES = """attrgetter breakpoint builtins compile copyright credits delattr dir eval exec exit gc getattr globals
    hasattr help id importlib license locals methodcaller os quit setattr super type vars sys""".split()
NO_WORDS = """type typing typing_extensions enum Enum IntEnum StrEnum Flag IntFlag Generic Protocol ABC ABCMeta
    namedtuple NamedTuple TypedDict TYPE_CHECKING abstractmethod""".split()
NO_PARTS = ["dataclass", "overload", "contextmanager"]
FILE_NAMES_OUT = ["test", "tests", "testing", "site", "conftest", "sitecustomize", "usercustomize"]
WALKED = ["zip", "enumerate", "reversed", "range"]
VIEWS = ["items", "keys", "values"]
TAKE_A_WALK = "list tuple dict sorted sum any all enumerate zip min max".split()
KEYWORDS = {
    "sorted": ["key", "reverse"], "min": ["key", "default"], "max": ["key", "default"],
    "sum": ["start"], "enumerate": ["start"], "zip": ["strict"],
}
STATEMENTS = (
    ast.Assign, ast.AugAssign, ast.If, ast.While, ast.For, ast.Return, ast.Break, ast.Continue, ast.Pass, ast.Raise,
    ast.Try, ast.Expr, ast.FunctionDef, ast.ClassDef, ast.ImportFrom,
)
EXPRESSIONS = (
    ast.BoolOp, ast.BinOp, ast.UnaryOp, ast.Lambda, ast.IfExp, ast.Dict, ast.Set, ast.ListComp, ast.Compare, ast.Call,
    ast.FormattedValue, ast.JoinedStr, ast.Constant, ast.Attribute, ast.Subscript, ast.Name, ast.List, ast.Tuple,
    ast.Slice,
)
PYTHONS_OWN = [name for kind in (str, int, list, dict, set, bytes, tuple) for name in dir(kind)]


def parents_of(tree):
    return {child: node for node in ast.walk(tree) for child in ast.iter_child_nodes(node)}


def name_of_call(node):
    if isinstance(node, ast.Call) and isinstance(node.func, ast.Name):
        return node.func.id
    return None


class Checked:
    """One file, and what is found wrong in it."""

    def __init__(self, name, text, own_methods=()):
        self.name = name
        self.text = text
        self.own_methods = list(own_methods)
        self.found = []
        self.tree = ast.parse(text)
        self.parents = parents_of(self.tree)
        self.top = [
            node.name for node in self.tree.body if isinstance(node, (ast.FunctionDef, ast.ClassDef))
        ]
        self.imported = [
            one.name for node in self.tree.body if isinstance(node, ast.ImportFrom) for one in node.names
        ]
        self.classes = [node.name for node in self.tree.body if isinstance(node, ast.ClassDef)]

    def say(self, rule, node, words):
        self.found.append((rule, self.name, getattr(node, "lineno", 0), words))

    def check(self):
        self.check_text()
        self.check_top()
        for node in ast.walk(self.tree):
            if isinstance(node, ast.stmt):
                self.check_statement(node)
            if isinstance(node, ast.expr):
                self.check_expression(node)
        return self.found

    def check_text(self):
        lines = self.text.split("\n")
        if len(lines) > 400:
            self.say("L10", None, "more than 400 lines")
        for number, line in enumerate(lines, start=1):
            if len(line) > 120 or "\t" in line:
                self.found.append(("L10", self.name, number, "a long line or a tab"))
            if any(not " " <= sign <= "~" for sign in line):
                self.found.append(("L14", self.name, number, "a sign beyond those allowed"))
            for word in re.findall(r"\w+", line):
                if word in NO_WORDS or any(part in word.lower() for part in NO_PARTS):
                    self.found.append(("L17", self.name, number, word))

    def check_top(self):
        bound = []
        for place, node in enumerate(self.tree.body):
            if isinstance(node, ast.Expr) and isinstance(node.value, ast.Constant) and place == 0:
                continue
            if isinstance(node, ast.ImportFrom):
                bound.extend(one.asname or one.name for one in node.names)
            elif isinstance(node, (ast.FunctionDef, ast.ClassDef)):
                bound.append(node.name)
            elif isinstance(node, ast.Assign) and isinstance(node.targets[0], ast.Name):
                bound.append(node.targets[0].id)
            else:
                self.say("L3", node, "not allowed at a file's top")
        for name in bound:
            if bound.count(name) > 1:
                self.say("L15", None, f"{name} is bound twice")

    def check_statement(self, node):
        if not isinstance(node, STATEMENTS):
            self.say("L6", node, type(node).__name__)
        if isinstance(node, ast.ImportFrom):
            self.check_import(node)
        if isinstance(node, ast.FunctionDef):
            self.check_function(node)
        if isinstance(node, ast.ClassDef):
            self.check_class(node)
        if isinstance(node, ast.Assign) and len(node.targets) != 1:
            self.say("L6", node, "more than one target")
        if isinstance(node, (ast.For, ast.While)) and node.orelse:
            self.say("L6", node, "else behind a loop")
        if isinstance(node, ast.Expr) and not isinstance(node.value, ast.Call) and node is not self.tree.body[0]:
            self.say("L6", node, "neither a call nor the docstring of the file")
        if isinstance(node, ast.Raise):
            self.check_raise(node)
        if isinstance(node, ast.Try):
            self.check_try(node)

    def check_import(self, node):
        if node not in self.tree.body or node.level or not (node.module or "").startswith("spantolls."):
            self.say("L2", node, "only names from the package's own files, at the top")
        if any(one.name == "*" or one.asname for one in node.names):
            self.say("L2", node, "names are drawn one by one, as they are called")

    def check_function(self, node):
        arguments = node.args
        if arguments.vararg or arguments.kwarg or arguments.kwonlyargs or arguments.posonlyargs:
            self.say("L4", node, "parameters beyond the plain ones")
        if node.decorator_list:
            self.say("L4", node, "a decorator")
        if any(not isinstance(one, ast.Constant) for one in arguments.defaults):
            self.say("L4", node, "a default that is no plain value")
        if node.end_lineno - node.lineno + 1 > 40:
            self.say("L10", node, "more than 40 lines")
        if node.returns or any(one.annotation for one in arguments.args):
            self.say("L21", node, "an annotation")
        self.check_new_name(node, node.name)
        for one in arguments.args:
            self.check_new_name(node, one.arg)
        if node.name == "__init__" and any(isinstance(one, ast.Return) for one in ast.walk(node)):
            self.say("L28", node, "__init__ gives something back")

    def check_class(self, node):
        if node not in self.tree.body:
            self.say("L15", node, "a class that is not at a file's top")
        if node.decorator_list or node.keywords or len(node.bases) > 1:
            self.say("L5", node, "a decorator, a keyword or more than one base")
        for one in node.body:
            if not isinstance(one, (ast.FunctionDef, ast.Pass)):
                self.say("L5", one, "not a method")
        methods = [one.name for one in node.body if isinstance(one, ast.FunctionDef)]
        for name in methods:
            if methods.count(name) > 1:
                self.say("L18", node, f"{name} stands twice")
            if name not in SPECIAL and name in PYTHONS_OWN and name not in METHODS + ["add", "discard"]:
                self.say("L26", node, name)

    def check_new_name(self, node, name):
        if name in SPECIAL and isinstance(self.parents.get(node), ast.ClassDef):
            return
        if not re.fullmatch(r"[A-Za-z][A-Za-z0-9_]*", name):
            self.say("L12", node, name)
        method = isinstance(node, ast.FunctionDef) and isinstance(self.parents.get(node), ast.ClassDef)
        if hasattr(builtins, name) and not (method and name == node.name):
            self.say("L15", node, f"{name} is a name of Python's own")
        if name in NOWHERE + NOT_NAMES:
            self.say("L17", node, name)

    def check_raise(self, node):
        if not isinstance(node.exc, ast.Call) or not isinstance(node.exc.func, ast.Name):
            self.say("L19", node, "the error is not made on the spot")

    def check_try(self, node):
        if node.finalbody:
            self.say("L6", node, "finally")
        for handler in node.handlers:
            if not isinstance(handler.type, ast.Name):
                self.say("L19", node, "not one error by its name")
            elif handler.type.id in PYTHON_ERRORS and handler.type.id not in TAKEN_ERRORS:
                self.say("L19", node, handler.type.id)

    def check_expression(self, node):
        if not isinstance(node, EXPRESSIONS):
            self.say("L7", node, type(node).__name__)
        for kind, check in (
            (ast.Constant, self.check_constant), (ast.BinOp, self.check_operation), (ast.Name, self.check_name),
            (ast.Compare, self.check_comparison), (ast.ListComp, self.check_comprehension),
            (ast.Attribute, self.check_attribute), (ast.Call, self.check_call), (ast.Set, self.check_set),
            (ast.FormattedValue, self.check_within_braces),
        ):
            if isinstance(node, kind):
                check(node)

    def check_constant(self, node):
        if node.value is not None and not isinstance(node.value, (bool, int, str)):
            self.say("L7", node, repr(node.value))
        if isinstance(node.value, str) and "%" in node.value:
            self.say("L27", node, "a percent sign within a text")

    def check_operation(self, node):
        if isinstance(node.op, (ast.Div, ast.MatMult)):
            self.say("L7", node, "an operator that is out")
        if isinstance(node.op, ast.Pow) and not (
            isinstance(node.right, ast.Constant) and isinstance(node.right.value, int) and 0 <= node.right.value <= 64
        ):
            self.say("L27", node, "an exponent that is not written out")

    def check_name(self, node):
        name = node.id
        if isinstance(node.ctx, ast.Store):
            self.check_new_name(node, name)
            if name in self.classes + self.imported:
                self.say("L15", node, f"{name} is a class or an import")
            return
        if hasattr(builtins, name) and name not in CALLED + PYTHON_ERRORS:
            self.say("L8", node, name)
        if name in NOWHERE + NOT_NAMES or name.startswith("_"):
            self.say("L17", node, name)
        parent = self.parents[node]
        held = isinstance(parent, ast.Call) and (parent.func is node or name_of_call(parent) == "isinstance")
        in_kinds = isinstance(parent, ast.Tuple) and name_of_call(self.parents[parent]) == "isinstance"
        as_key = isinstance(parent, ast.keyword) and parent.arg == "key"
        if name in CALLED and not (held or in_kinds or as_key):
            self.say("L22", node, f"{name} kept as a value")

    def check_comparison(self, node):
        beside = [node.left] + node.comparators
        for place, operator in enumerate(node.ops):
            if isinstance(operator, (ast.Is, ast.IsNot)):
                pair = beside[place:place + 2]
                if not any(isinstance(one, ast.Constant) and one.value in (None, True, False) for one in pair):
                    self.say("L20", node, "is")

    def check_comprehension(self, node):
        if len(node.generators) != 1 or len(node.generators[0].ifs) > 1 or node.generators[0].is_async:
            self.say("L7", node, "more than one for or if in a comprehension")

    def check_attribute(self, node):
        if node.attr in NOWHERE or node.attr.startswith("_") and node.attr != "__init__":
            self.say("L17", node, node.attr)
        called = isinstance(self.parents[node], ast.Call) and self.parents[node].func is node
        if called and node.attr not in METHODS + self.own_methods + ["__init__"]:
            self.say("L25", node, node.attr)
        if not called and (node.attr in METHODS or node.attr in PYTHONS_OWN):
            self.say("L26", node, node.attr)

    def check_call(self, node):
        name = name_of_call(node)
        for one in node.keywords:
            if name in CALLED + PYTHON_ERRORS and one.arg not in KEYWORDS.get(name, []):
                self.say("L22", node, f"{name} with {one.arg}")
            if isinstance(node.func, ast.Attribute) and node.func.attr in METHODS:
                self.say("L22", node, f"{node.func.attr} with {one.arg}")
        if name in ("set", "frozenset"):
            self.check_set(node)
        view = isinstance(node.func, ast.Attribute) and node.func.attr in VIEWS
        if name in WALKED or view:
            self.check_walked(node)

    def check_walked(self, node):
        parent = self.parents[node]
        behind_in = isinstance(parent, (ast.For, ast.comprehension)) and parent.iter is node
        in_call = name_of_call(parent) in TAKE_A_WALK and node in parent.args
        if not (behind_in or in_call):
            self.say("L23", node, "not walked on the spot")

    def check_set(self, node):
        parent = self.parents[node]
        if not (isinstance(parent, ast.Compare) or name_of_call(parent) in ("sorted", "len")):
            self.say("L24", node, "a set that is kept or walked")

    def check_within_braces(self, node):
        if not isinstance(node.value, ast.Name) or node.conversion not in (-1, ord("r")) or node.format_spec:
            self.say("L7", node, "more than a name within braces")


def files():
    return sorted(path for path in PACKAGE.rglob("*") if "__pycache__" not in path.parts and path.is_file())


def texts():
    return {path.stem: path.read_text(encoding="utf-8") for path in files()}


def methods_and_values():
    methods, values = [], []
    for text in texts().values():
        for node in ast.walk(ast.parse(text)):
            if isinstance(node, ast.ClassDef):
                methods.extend(one.name for one in node.body if isinstance(one, ast.FunctionDef))
            if isinstance(node, ast.Attribute) and isinstance(node.ctx, ast.Store):
                values.append(node.attr)
    return methods, values


def drawn():
    """For each file the files that it draws from, its folder's own among them."""
    found = {}
    for stem, text in texts().items():
        rows = [node for node in ast.walk(ast.parse(text)) if isinstance(node, ast.ImportFrom)]
        found[stem] = sorted({row.module.split(".")[-1] for row in rows} | ({"__init__"} if rows else set()))
    return found


class Files(unittest.TestCase):
    def test_names_of_the_files(self):
        self.assertTrue((PACKAGE / "__init__.py").is_file())
        for path in files():
            self.assertRegex(path.name, r"^(__init__|__main__|[a-z][a-z0-9_]*)\.py$")
            self.assertEqual(path.parent, PACKAGE)
            if path.stem != "__init__":
                self.assertFalse(hasattr(builtins, path.stem) or keyword.iskeyword(path.stem), path.name)
            self.assertNotIn(path.stem, FILE_NAMES_OUT + NO_WORDS)
            self.assertFalse(path.stem.startswith("test_"))

    def test_each_file_keeps_to_the_rules(self):
        methods, values = methods_and_values()
        found = []
        for stem, text in texts().items():
            found.extend(Checked(stem, text, methods).check())
        self.assertEqual(found, [])

    def test_no_name_is_a_method_and_a_value(self):
        methods, values = methods_and_values()
        self.assertEqual(set(methods) & set(values), set())

    def test_names_are_drawn_from_the_file_that_defines_them(self):
        for stem, text in texts().items():
            for row in ast.walk(ast.parse(text)):
                if isinstance(row, ast.ImportFrom):
                    source = texts()[row.module.split(".")[-1]]
                    for one in row.names:
                        self.assertIn(one.name, Checked(row.module, source).top)

    def test_no_two_files_draw_from_one_another(self):
        draws = drawn()
        reached = {stem: set(names) for stem, names in draws.items()}
        for step in draws:
            for stem in draws:
                reached[stem] |= {name for source in reached[stem] for name in reached[source]}
        for stem in draws:
            self.assertNotIn(stem, reached[stem])

    def test_the_package_file_binds_no_name(self):
        self.assertEqual(len(ast.parse(texts()["__init__"]).body), 1)


class TheCheckItself(unittest.TestCase):
    def rules(self, text):
        return sorted({rule for rule, name, line, words in Checked("sample", text).check()})

    def test_what_is_allowed_passes(self):
        self.assertEqual(self.rules(
            '"""Words."""\n\nfrom spantolls.errors import BadRooms\n\nONE = 1\n\n\n'
            "def some(xs, y=0):\n    for k, x in enumerate(xs):\n        y += k * x\n"
            "    if not isinstance(xs, list):\n        raise BadRooms(f\"{y}\")\n"
            "    return sorted([x for x in xs if x], key=lambda x: -x)\n"
        ), [])

    def test_what_is_out_is_found(self):
        for rule, text in (
            ("L2", "from os.path import join\n"),
            ("L2", "from .errors import BadRooms\n"),
            ("L3", "if 1:\n    pass\n"),
            ("L4", "def f(*xs):\n    pass\n"),
            ("L5", "class A:\n    x = 1\n"),
            ("L6", "import sys\n"),
            ("L6", "def f():\n    yield 1\n"),
            ("L6", "def f():\n    assert 1\n"),
            ("L6", "def f():\n    a = b = 1\n"),
            ("L6", 'def f():\n    "words"\n'),
            ("L7", "def f(x):\n    return x / 2\n"),
            ("L7", "def f(x):\n    return 0.5\n"),
            ("L7", "def f(xs):\n    return all(x for x in xs)\n"),
            ("L7", "def f(xs):\n    return [x for ys in xs for x in ys]\n"),
            ("L8", "def f(x):\n    return pow(x, 2)\n"),
            ("L10", "def f(x):\n" + "    x = 1\n" * 40),
            ("L12", "def _f():\n    pass\n"),
            ("L14", "# \u00e4\n"),
            ("L15", "def f(max):\n    pass\n"),
            ("L15", "X = 1\nX = 2\n"),
            ("L17", "# a type\n"),
            ("L19", "def f():\n    try:\n        pass\n    except Exception:\n        pass\n"),
            ("L19", "def f(e):\n    raise e\n"),
            ("L20", "def f(x, y):\n    return x is y\n"),
            ("L21", "def f(x: int):\n    pass\n"),
            ("L22", "def f(xs):\n    g = len\n    return g(xs)\n"),
            ("L23", "def f(xs):\n    ys = zip(xs, xs)\n    return list(ys)\n"),
            ("L24", "def f(xs):\n    ys = set(xs)\n    return ys\n"),
            ("L25", "def f(xs):\n    xs.sort()\n"),
            ("L26", "class A:\n    def __init__(self):\n        self.sort = 1\n"),
            ("L27", "def f(n):\n    return 2 ** n\n"),
            ("L28", "class A:\n    def __init__(self):\n        return None\n"),
        ):
            self.assertIn(rule, self.rules(text), text)


if __name__ == "__main__":
    unittest.main()
