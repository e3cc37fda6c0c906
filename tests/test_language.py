"""LANGUAGE.md: a part of its rules, those that are plainly seen in a file; the others are looked after by hand."""

import ast
import builtins
import pathlib
import re
import unittest

PACKAGE = pathlib.Path(__file__).resolve().parent.parent / "samewise"

STATEMENTS = (
    "Assign AugAssign If While For Return Break Continue Pass Raise Try Expr FunctionDef ClassDef ImportFrom".split()
)
EXPRESSIONS = (
    "Constant List Tuple Dict BinOp UnaryOp BoolOp Compare IfExp Call Attribute Subscript Slice Name "
    "ListComp JoinedStr FormattedValue Lambda".split()
)
OWN_NAMES = (
    "len range enumerate zip min max sum abs sorted reversed int str bool list tuple dict set frozenset isinstance ord "
    "repr any all divmod Exception ValueError TypeError KeyError IndexError LookupError ZeroDivisionError "
    "ArithmeticError OverflowError RuntimeError NotImplementedError AttributeError StopIteration".split()
)
METHODS = (
    "append clear copy count endswith extend find get index insert isalnum isalpha isdigit islower isspace isupper "
    "items join keys ljust lower lstrip partition pop remove replace reverse rfind rjust rpartition rsplit rstrip "
    "setdefault split splitlines startswith strip update upper values zfill bit_length".split()
)
KEYWORDS = {
    "sorted": ["key", "reverse"], "min": ["key", "default"], "max": ["key", "default"], "sum": ["start"],
    "enumerate": ["start"], "zip": ["strict"],
}
DUNDERS = "__init__ __eq__ __repr__ __str__ __len__".split()
BANNED = re.compile(
    r"\b(type|typing|typing_extensions|enum|Enum|IntEnum|StrEnum|Flag|IntFlag|Generic|Protocol|ABC|ABCMeta|namedtuple"
    r"|NamedTuple|TypedDict|TYPE_CHECKING|abstractmethod)\b|dataclass|overload|contextmanager"
)


def faults(source, own_methods):
    """The faults of one file's text, each as (rule, row)."""
    found = text_faults(source)
    tree = ast.parse(source)
    found += top_faults(tree) + shadow_faults(tree)
    for node in ast.walk(tree):
        found += [(rule, node.lineno) for rule in node_faults(node, own_methods)]
    return found


def text_faults(source):
    found = []
    rows = source.split("\n")
    if len(rows) > 401:
        found.append(("L10", 401))
    for place, row in enumerate(rows, start=1):
        if len(row) > 120:
            found.append(("L10", place))
        if any(not " " <= sign <= "~" for sign in row):
            found.append(("L14", place))
        if BANNED.search(row):
            found.append(("L17", place))
    return found


def top_faults(tree):
    found = []
    bound = []
    for place, node in enumerate(tree.body):
        docstring = place == 0 and isinstance(node, ast.Expr) and isinstance(node.value, ast.Constant)
        if isinstance(node, (ast.FunctionDef, ast.ClassDef)):
            bound.append(node.name)
        elif isinstance(node, ast.ImportFrom):
            bound += [alias.name for alias in node.names]
        elif isinstance(node, ast.Assign):
            bound.append(ast.unparse(node.targets[0]))
        elif not docstring:
            found.append(("L3", node.lineno))
        if len(set(bound)) < len(bound):
            found.append(("L15", node.lineno))
            bound = []
    return found


def shadow_faults(tree):
    """Parameters and locals that are called like a class or an import of the file."""
    taken = [node.name for node in tree.body if isinstance(node, ast.ClassDef)]
    for node in tree.body:
        if isinstance(node, ast.ImportFrom):
            taken += [alias.name for alias in node.names]
    found = []
    for node in ast.walk(tree):
        if isinstance(node, ast.arg) and node.arg in taken:
            found.append(("L15", node.lineno))
        if isinstance(node, ast.Name) and isinstance(node.ctx, ast.Store) and node.id in taken:
            found.append(("L15", node.lineno))
    return found


def node_faults(node, own_methods):
    kind = node.__class__.__name__
    rules = []
    if isinstance(node, ast.stmt) and kind not in STATEMENTS:
        rules.append("L6")
    if isinstance(node, ast.expr) and kind not in EXPRESSIONS:
        rules.append("L7")
    check = CHECKS.get(kind)
    if check and check(node, own_methods):
        rules.append(RULES[kind])
    return rules


def bad_import(node, own_methods):
    plain = not node.level and node.module.startswith("samewise.")
    return not plain or any(alias.name == "*" or alias.asname for alias in node.names)


def bad_function(node, own_methods):
    given = node.args
    starred = given.vararg or given.kwarg or given.kwonlyargs or given.posonlyargs
    long = node.end_lineno - node.lineno >= 40
    names = [arg.arg for arg in given.args] + ([] if node.name in DUNDERS else [node.name])
    return starred or long or node.decorator_list or any(bad_local(name) for name in names)


def bad_local(name):
    return name.startswith("_") or hasattr(builtins, name) or not name.isascii()


def bad_class(node, own_methods):
    plain = all(isinstance(part, (ast.FunctionDef, ast.Pass)) for part in node.body)
    return node.decorator_list or node.keywords or len(node.bases) > 1 or not plain or bad_local(node.name)


def bad_name(node, own_methods):
    if isinstance(node.ctx, ast.Load):
        return hasattr(builtins, node.id) and node.id not in OWN_NAMES
    return bad_local(node.id)


def bad_attribute(node, own_methods):
    return node.attr.startswith("_") and node.attr != "__init__"


def bad_call(node, own_methods):
    called = node.func
    if isinstance(called, ast.Name):
        # Sets are never needed here, so they are not made at all (L24).
        allowed = KEYWORDS.get(called.id, []) if called.id in OWN_NAMES else None
        wrong = allowed is not None and any(keyword.arg not in allowed for keyword in node.keywords)
        return wrong or called.id in ("set", "frozenset")
    return isinstance(called, ast.Attribute) and called.attr not in METHODS + own_methods + ["__init__"]


def bad_constant(node, own_methods):
    return (isinstance(node.value, str) and "%" in node.value) or isinstance(node.value, (float, bytes, complex)) or node.value is ...


def bad_operation(node, own_methods):
    if isinstance(node.op, ast.Pow):
        return not isinstance(node.right, ast.Constant) or not 0 <= node.right.value <= 64
    return isinstance(node.op, (ast.Div, ast.MatMult))


def bad_comparison(node, own_methods):
    if not any(isinstance(op, (ast.Is, ast.IsNot)) for op in node.ops):
        return False
    return not any(isinstance(side, ast.Constant) for side in [node.left] + node.comparators)


def bad_loop(node, own_methods):
    return bool(node.orelse)


def bad_assignment(node, own_methods):
    return len(node.targets) > 1


def bad_try(node, own_methods):
    return node.finalbody or any(handler.type is None for handler in node.handlers)


def bad_comprehension(node, own_methods):
    return len(node.generators) > 1 or len(node.generators[0].ifs) > 1


def bad_f_string(node, own_methods):
    return not isinstance(node.value, ast.Name) or node.format_spec is not None


CHECKS = {
    "ImportFrom": bad_import, "FunctionDef": bad_function, "ClassDef": bad_class, "Name": bad_name,
    "Attribute": bad_attribute, "Call": bad_call, "Constant": bad_constant, "BinOp": bad_operation,
    "Compare": bad_comparison, "For": bad_loop, "While": bad_loop, "Assign": bad_assignment, "Try": bad_try,
    "ListComp": bad_comprehension, "FormattedValue": bad_f_string,
}
RULES = {
    "ImportFrom": "L2", "FunctionDef": "L4", "ClassDef": "L5", "Name": "L8", "Attribute": "L12", "Call": "L25",
    "Constant": "L7", "BinOp": "L7", "Compare": "L20", "For": "L6", "While": "L6", "Assign": "L6", "Try": "L6",
    "ListComp": "L7", "FormattedValue": "L7",
}
WRONG = {
    "L2": "import os\nfrom samewise.trees import *\nfrom os import path\n",
    "L3": "print(3)\n",
    "L4": "def f(*rest):\n    return rest\n",
    "L5": "class A:\n    size = 3\n",
    "L6": "def f(x):\n    assert x\n",
    "L7": "def f(x):\n    return x / 2\n",
    "L8": "def f(x):\n    return hash(x)\n",
    "L10": "# " + "x" * 120 + "\n",
    "L12": "def f(x):\n    return x._inner\n",
    "L14": "# \u00e9\n",
    "L15": "from samewise.trees import parts\ndef f(parts):\n    return parts\n",
    "L17": "# a type\n",
    "L20": "def f(x, y):\n    return x is y\n",
    "L25": "def f(x):\n    return x.isnumeric()\n",
}
ALSO_WRONG = (
    ("L15", "a = 1\na = 2\n"),
    ("L7", "def f():\n    return {1, 2}\n"),
    ("L7", "def f(x):\n    return x == 'a % b'\n"),
    ("L25", "def f(x):\n    return set(x)\n"),
    ("L25", "def f(x):\n    return int(x, base=3)\n"),
)


def package_sources():
    return {path.stem: path.read_text(encoding="utf-8") for path in sorted(PACKAGE.glob("*.py"))}


def methods_of(sources):
    trees = [ast.parse(source) for source in sources.values()]
    classes = [node for tree in trees for node in tree.body if isinstance(node, ast.ClassDef)]
    return [part.name for node in classes for part in node.body if isinstance(part, ast.FunctionDef)]


def values_of(sources):
    """All names that are given to self somewhere."""
    found = []
    for source in sources.values():
        for node in ast.walk(ast.parse(source)):
            if isinstance(node, ast.Attribute) and isinstance(node.ctx, ast.Store):
                found.append(node.attr)
    return found


def defined_in(source):
    found = []
    for node in ast.parse(source).body:
        if isinstance(node, (ast.FunctionDef, ast.ClassDef)):
            found.append(node.name)
        if isinstance(node, ast.Assign):
            found.append(ast.unparse(node.targets[0]))
    return found


def drawn_from(sources):
    drawn = {}
    for stem, source in sources.items():
        rows = [node for node in ast.parse(source).body if isinstance(node, ast.ImportFrom)]
        drawn[stem] = [row.module.partition(".")[2] for row in rows]
    return drawn


class Language(unittest.TestCase):
    def test_the_package_keeps_to_the_rules(self):
        sources = package_sources()
        methods = methods_of(sources)
        self.assertIn("texts", sources)
        for stem, source in sources.items():
            self.assertEqual(faults(source, methods), [], stem)

    def test_nothing_else_lies_in_the_package(self):
        names = [path.name for path in PACKAGE.iterdir() if path.name != "__pycache__"]
        for name in names:
            self.assertRegex(name, r"\A(__init__|__main__|[a-z][a-z0-9_]*)\.py\Z")
        self.assertIn("__init__.py", names)

    def test_no_two_files_draw_from_one_another(self):
        left = drawn_from(package_sources())
        while left:
            ready = [stem for stem in left if not set(left[stem]) & set(left)]
            self.assertTrue(ready, f"these draw from one another: {sorted(left)}")
            left = {stem: left[stem] for stem in left if stem not in ready}

    def test_each_name_is_drawn_from_the_file_that_defines_it(self):
        sources = package_sources()
        for source in sources.values():
            for node in ast.parse(source).body:
                if isinstance(node, ast.ImportFrom):
                    home = defined_in(sources[node.module.partition(".")[2]])
                    self.assertEqual([alias.name for alias in node.names if alias.name not in home], [])

    def test_no_name_is_a_method_and_a_value(self):
        sources = package_sources()
        self.assertEqual(set(methods_of(sources)) & set(values_of(sources)), set())

    def test_no_value_is_called_as_python_calls_its_own(self):
        values = set(values_of(package_sources()))
        own = {name for kind in (str, int, list, dict, set, bytes) for name in dir(kind)}
        self.assertEqual(values & own - {"count", "index", "title", "find", "get", "join", "copy", "add"}, set())

    def test_the_init_file_draws_from_nothing(self):
        self.assertEqual(drawn_from(package_sources())["__init__"], [])

    def test_each_looked_for_fault_is_seen(self):
        for rule, source in WRONG.items():
            self.assertIn(rule, [fault[0] for fault in faults(source, [])], source)
        for rule, source in ALSO_WRONG:
            self.assertIn(rule, [fault[0] for fault in faults(source, [])], source)


if __name__ == "__main__":
    unittest.main()
