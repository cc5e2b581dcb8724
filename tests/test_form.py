"""Looks at the form of the code in the package: rules of LANGUAGE.md.

Each check yields pairs (rule, line) for what breaks a rule. SAMPLES shows
of each check that it finds what it looks for.
"""

import ast
import builtins
import io
import pathlib
import re
import tokenize
import unittest
import warnings

from tests.test_interface import CLASSES, INTERFACE

PACKAGE = pathlib.Path(__file__).resolve().parent.parent / "goesout"
DEFINED = {
    "errors": ("GoesError NoRule NoPlaces NoState NoThing NoRequests NoFamily NoArrangement NoNumber "
               "NoWalk NoPath NoAccesses NoText NothingDone TooMany NotNested Pins").split(),
    **{file: list(names) for part in (INTERFACE, CLASSES) for file, names in part.items()},
}
LIBRARY = {
    "heapq": "heappush heappop heapify heapreplace heappushpop".split(),
    "math": "gcd lcm isqrt comb perm factorial".split(),
    "itertools": ("product combinations permutations chain accumulate pairwise islice "
                  "zip_longest").split(),
    "collections": ["defaultdict"],
    "__future__": ["annotations"],
}
BUILTINS = set(
    "len range enumerate zip min max sum abs sorted reversed int str bool bytes list tuple dict set "
    "frozenset isinstance ord repr any all divmod pow getattr hasattr setattr iter next map super "
    "object property staticmethod classmethod Exception ValueError TypeError KeyError IndexError "
    "LookupError ZeroDivisionError ArithmeticError OverflowError RuntimeError NotImplementedError "
    "AttributeError StopIteration NotImplemented".split())
METHODS = set(
    "append clear copy count endswith extend find get index insert isalnum isalpha isdigit islower "
    "isspace isupper items join keys ljust lower lstrip partition pop remove replace reverse rfind "
    "rjust rpartition rsplit rstrip setdefault split splitlines startswith strip update upper values "
    "zfill bit_length title capitalize swapcase casefold center expandtabs removeprefix removesuffix "
    "rindex isascii isdecimal isnumeric istitle isidentifier isprintable translate maketrans add "
    "discard encode decode hex from_bytes sort format".split())
OF_BUILTINS = {name for kind in (str, list, dict, tuple, set, frozenset, bytes, int)
               for name in dir(kind) if not name.startswith("_")}
DUNDERS = set(
    "init eq repr str len enter exit call iter lt le gt ge ne add sub mul floordiv mod pow and or xor "
    "lshift rshift radd rsub rmul rfloordiv rmod rand ror rxor rlshift rrshift iadd isub imul "
    "ifloordiv imod ipow iand ior ixor ilshift irshift neg pos invert abs bool contains getitem "
    "setitem".split())
WORDS = set(
    "type typing typing_extensions enum Enum IntEnum StrEnum Flag IntFlag Generic Protocol ABC ABCMeta "
    "namedtuple NamedTuple TypedDict TYPE_CHECKING abstractmethod dataclass overload contextmanager "
    "register mro elements open input law version_info with_traceback add_note".split())
NO_STATEMENTS = (ast.Global, ast.AsyncFunctionDef, ast.AsyncFor, ast.AsyncWith, ast.Await,
                 ast.TryStar, ast.Import)
CAUGHT = {"Exception", "TypeError", "ArithmeticError", "OverflowError", "RuntimeError",
          "NotImplementedError", "AttributeError", "BaseException"}
WHOLE = {"list", "tuple", "dict", "sorted", "sum", "min", "max", "any", "all", "join"}


def called(node):
    """Return the name of what a call calls, or an empty text."""
    if not isinstance(node, ast.Call):
        return ""
    return getattr(node.func, "id", getattr(node.func, "attr", ""))


def bound(node):
    """Return the names that a node binds."""
    if isinstance(node, (ast.FunctionDef, ast.ClassDef, ast.ExceptHandler)):
        return [node.name] if node.name else []
    if isinstance(node, ast.Name) and not isinstance(node.ctx, ast.Load):
        return [node.id]
    if isinstance(node, (ast.arg, ast.keyword)):
        return [node.arg] if node.arg else []
    if isinstance(node, ast.ImportFrom):
        return [part.asname or part.name for part in node.names]
    return []


def is_plain(node):
    """Tell whether an expression is a plain value, as at module level."""
    if isinstance(node, (ast.List, ast.Tuple)):
        return all(map(is_plain, node.elts))
    if isinstance(node, ast.Dict):
        return all(map(is_plain, node.keys + node.values))
    if isinstance(node, ast.BinOp):
        return is_plain(node.left) and is_plain(node.right)
    if isinstance(node, ast.UnaryOp):
        return is_plain(node.operand)
    return isinstance(node, (ast.Constant, ast.Name))


def sizes_and_signs(text, tree):
    """L10 size, L14 characters, L27 what a string may hold, and warnings."""
    lines = text.split("\n")
    if len(lines) > 400:
        yield "L10", 400
    for number, line in enumerate(lines, 1):
        if len(line) > 120 or "\t" in line:
            yield "L10", number
        if any(not " " <= sign <= "~" for sign in line):
            yield "L14", number
    for node in ast.walk(tree):
        if isinstance(node, ast.FunctionDef) and node.end_lineno - node.lineno >= 40:
            yield "L10", node.lineno
    for token in tokenize.generate_tokens(io.StringIO(text).readline):
        is_text = tokenize.tok_name[token.type] in ("STRING", "FSTRING_START", "FSTRING_MIDDLE")
        if is_text and ("%" in token.string or re.search(r"\\[^nt\\'\"]", token.string)):
            yield "L27", token.start[0]
    with warnings.catch_warnings():
        warnings.simplefilter("error")
        try:
            compile(text, "file", "exec")
        except (Warning, SyntaxError):
            # Some warnings come out as a SyntaxError when they are errors.
            yield "L27", 1


def module_level(text, tree):
    """L2 and L3: imports stand first, then only functions, classes and plain names."""
    begun, names = False, []
    for at, node in enumerate(tree.body):
        names += bound(node)
        if isinstance(node, ast.ImportFrom):
            if begun or node.level or not is_import(node):
                yield "L2", node.lineno
        elif isinstance(node, ast.Assign):
            begun = True
            names += [name for part in node.targets for name in bound(part)]
            single = len(node.targets) == 1 and isinstance(node.targets[0], ast.Name)
            if not single or not is_plain(node.value):
                yield "L3", node.lineno
        elif isinstance(node, (ast.FunctionDef, ast.ClassDef)):
            begun = True
        elif at or not isinstance(node, ast.Expr) or not isinstance(node.value, ast.Constant):
            yield "L3", node.lineno
    if len(names) != len(set(names)):
        yield "L15", 1


def is_import(node):
    """Tell whether an import names a file of the package, or what L2 lists."""
    names = [part.name for part in node.names]
    if node.module in LIBRARY:
        allowed = LIBRARY[node.module]
        return all(part.asname is None and part.name in allowed for part in node.names)
    return node.module.startswith("goesout.") and "*" not in names


def names_used(text, tree):
    """L8, L12, L15, L17 and L25: which names there may be."""
    everywhere = {name for node in ast.walk(tree) for name in bound(node)}
    for node in ast.walk(tree):
        line = getattr(node, "lineno", 1)
        for name in bound(node):
            # The doctests of other files leave a _ there.
            if name in vars(builtins) and name != "_" and not isinstance(node, ast.keyword):
                yield "L15", line
            if not re.fullmatch(r"_?[A-Za-z][A-Za-z0-9_]*|_|__\w+__|[*]", name):
                yield "L12", line
        if isinstance(node, ast.Name) and node.id not in everywhere:
            if node.id not in BUILTINS:
                yield "L8", line
        if isinstance(node, ast.Name) and isinstance(node.ctx, ast.Load) and node.id == "_":
            yield "L12", line
        if isinstance(node, ast.Call) and isinstance(node.func, ast.Attribute):
            if called(node) in OF_BUILTINS - METHODS:
                yield "L25", line
    for token in tokenize.generate_tokens(io.StringIO(text).readline):
        if token.type == tokenize.NAME and token.string in WORDS:
            yield "L17", token.start[0]


def statements(text, tree):
    """L4, L5, L6, L19 and L20: which statements there may be."""
    methods = [part for node in ast.walk(tree) if isinstance(node, ast.ClassDef) for part in node.body]
    for node in ast.walk(tree):
        if isinstance(node, NO_STATEMENTS):
            yield "L6", node.lineno
        if isinstance(node, ast.FunctionDef):
            if node.decorator_list and node not in methods:
                yield "L4", node.lineno
            dunder = re.fullmatch(r"__(\w+)__", node.name)
            if dunder and (dunder[1] not in DUNDERS or node not in methods):
                yield "L5", node.lineno
            if not all(map(is_plain, node.args.defaults)):
                yield "L4", node.lineno
        if isinstance(node, ast.ClassDef) and (node.decorator_list or node.keywords):
            yield "L5", node.lineno
        if isinstance(node, ast.ExceptHandler):
            kinds = getattr(node.type, "elts", [node.type])
            if any(getattr(kind, "id", "BaseException") in CAUGHT for kind in kinds):
                yield "L19", node.lineno
        if isinstance(node, ast.Raise) and node.exc is not None:
            if not isinstance(node.exc, ast.Call) or not isinstance(node.exc.func, ast.Name):
                yield "L19", node.lineno
        if isinstance(node, ast.Compare):
            for sign, side in zip(node.ops, node.comparators):
                is_word = isinstance(side, ast.Constant) and repr(side.value) in ("None", "True", "False")
                if isinstance(sign, (ast.Is, ast.IsNot)) and not is_word:
                    yield "L20", node.lineno


def expressions(text, tree):
    """L7, L23 and L24: no floats, generator expressions and sets only where they may stand."""
    above = {part: node for node in ast.walk(tree) for part in ast.iter_child_nodes(node)}
    for node in ast.walk(tree):
        over = above.get(node)
        if isinstance(node, ast.Constant) and isinstance(node.value, (float, complex)):
            yield "L7", node.lineno
        if isinstance(node, (ast.BinOp, ast.AugAssign)) and isinstance(node.op, ast.Div):
            yield "L7", node.lineno
        if isinstance(node, ast.GeneratorExp) and called(over) not in WHOLE:
            yield "L7", node.lineno
        is_set = isinstance(node, (ast.Set, ast.SetComp)) or called(node) == "set"
        single = isinstance(over, ast.Assign) and isinstance(over.targets[0], ast.Name)
        joined = isinstance(over, ast.Compare) or isinstance(over, ast.BinOp)
        if is_set and not (single or joined or called(over) in ("len", "sorted")):
            yield "L24", node.lineno
        if called(node) in ("zip", "enumerate", "range", "reversed"):
            if isinstance(over, (ast.Return, ast.List, ast.Tuple, ast.Dict, ast.Attribute)):
                yield "L23", node.lineno


def classes(text, tree):
    """L5, L6, L7 and L28: what classes, `finally` and double-underscore methods may hold."""
    for node in ast.walk(tree):
        if isinstance(node, ast.ClassDef):
            for part in node.body:
                if not isinstance(part, (ast.FunctionDef, ast.Assign)) and not is_text(part):
                    yield "L5", part.lineno
                for word in getattr(part, "decorator_list", []):
                    if ast.unparse(word).split(".")[-1] not in ("property", "setter", "staticmethod", "classmethod"):
                        yield "L5", part.lineno
        if called(node) == "super" and node.args:
            yield "L5", node.lineno
        if isinstance(node, ast.Attribute) and called(node.value) == "super":
            if re.fullmatch(r"__\w+__", node.attr) and node.attr != "__init__":
                yield "L5", node.lineno
        for part in getattr(node, "finalbody", []):
            if not is_simple_row(part):
                yield "L6", part.lineno
        # A class has an __eq__, so that these take a list.
        if called(node) in WHOLE - {"list", "tuple", "dict", "join"}:
            if any(isinstance(part, ast.GeneratorExp) for part in node.args):
                yield "L7", node.lineno
        if isinstance(node, ast.FunctionDef) and node.name in RETURNED:
            for part in ast.walk(node):
                if isinstance(part, ast.Return) and not is_returned(part.value, RETURNED[node.name]):
                    yield "L28", part.lineno


RETURNED = {"__len__": ("len",), "__repr__": ("str", "repr", "join"), "__str__": ("str", "repr", "join")}


def is_text(node):
    """Tell whether a statement is a docstring."""
    return isinstance(node, ast.Expr) and isinstance(node.value, ast.Constant)


def is_returned(node, calls):
    """Tell whether __len__, __repr__ or __str__ may return this: a literal, or what these calls give."""
    return isinstance(node, (ast.Constant, ast.JoinedStr)) or called(node) in calls


def is_simple_row(node):
    """Tell whether a statement may stand in a `finally`: the assignment of names, also under a test for None."""
    if isinstance(node, ast.If):
        return bool(re.fullmatch(r"[\w.]+ is (not )?None", ast.unparse(node.test))) and all(
            map(is_simple_row, node.body + node.orelse))
    if isinstance(node, ast.Assign):
        return all(isinstance(part, (ast.Name, ast.Attribute, ast.Constant)) for part in node.targets + [node.value])
    return isinstance(node, ast.Pass)


CHECKS = (sizes_and_signs, module_level, names_used, statements, expressions, classes)

# Each of these texts breaks the rule beside it.
SAMPLES = (
    ("L2", "from os.path import join"), ("L2", "from goesout.rules import *"),
    ("L2", "from .rules import step"), ("L2", "LOW = 1\nfrom goesout.rules import step"),
    ("L2", "from math import sqrt"), ("L3", "LOW = len('a')"), ("L3", "LOW, HIGH = 1, 2"),
    ("L3", "if 1:\n    pass"), ("L3", "print(1)"),
    ("L4", "def f(x):\n    return x\n\n\n@f\ndef g():\n    pass"), ("L4", "def f(x=len('a')):\n    pass"),
    ("L5", "class A:\n    def __del__(self):\n        pass"), ("L5", "def __len__():\n    return 0"),
    ("L6", "import goesout"), ("L6", "X = 1\n\n\ndef f():\n    global X"),
    ("L7", "LOW = 1.5"), ("L7", "def f(x):\n    return x / 2"),
    ("L7", "def f(xs):\n    return tuple(xs), (x for x in xs)"),
    ("L8", "def f(x):\n    return hash(x)"), ("L8", "def f(x):\n    return print(x)"),
    ("L10", "def f():\n" + "    pass\n" * 40), ("L10", "# " + "x" * 120), ("L10", "# x\n" * 400),
    ("L12", "def f(__x):\n    pass"), ("L12", "def f(_):\n    return _"),
    ("L14", "# \u00e9"), ("L15", "LOW = 1\nLOW = 2"), ("L15", "def f(max):\n    pass"),
    ("L17", "def f():\n    law = 1\n    return law"), ("L19", "def f():\n    raise ValueError"),
    ("L19", "def f():\n    try:\n        f()\n    except Exception:\n        pass"),
    ("L19", "def f():\n    try:\n        f()\n    except:\n        pass"),
    ("L20", "def f(x, y):\n    return x is y"), ("L23", "def f(x):\n    return range(x)"),
    ("L24", "def f(xs):\n    return set(xs)"), ("L24", "def f(xs):\n    return [{x for x in xs}]"),
    ("L25", "def f(x):\n    return x.is_integer() or x.format_map(x)"), ("L27", "LOW = 'a%'"),
    ("L5", "class A:\n    @abs\n    def f(self):\n        pass"), ("L5", "class A:\n    if 1:\n        B = 2"),
    ("L5", "class A:\n    def f(self):\n        super(A, self).f()"),
    ("L5", "class A:\n    def f(self):\n        return super().__repr__()"),
    ("L6", "def f(xs):\n    try:\n        f(xs)\n    finally:\n        xs = f(xs)"),
    ("L6", "def f(xs):\n    try:\n        f(xs)\n    finally:\n        if xs:\n            xs = 1"),
    ("L6", "def f(xs):\n    try:\n        f(xs)\n    finally:\n        f(xs)"),
    ("L7", "def f(xs):\n    return any(x for x in xs)"),
    ("L28", "class A:\n    def __len__(self):\n        return self.n"),
    ("L28", "class A:\n    def __repr__(self):\n        return self.name"),
    ("L27", "LOW = '\\x41'"), ("L27", "def f(x):\n    return 1if x else 2"),
)


def complaints(text):
    """Return the rules that a text breaks, with the lines."""
    tree = ast.parse(text)
    return [found for check in CHECKS for found in check(text, tree)]


def imported(tree):
    """Return pairs of a file of the package and a name that is imported from it."""
    return [(node.module.split(".")[-1], part.name) for node in tree.body
            if isinstance(node, ast.ImportFrom) and node.module.startswith("goesout.")
            for part in node.names]


class FormTest(unittest.TestCase):
    def setUp(self):
        self.files = {path.stem: path.read_text("ascii") for path in sorted(PACKAGE.glob("*.py"))}
        self.trees = {name: ast.parse(self.files[name]) for name in self.files}

    def test_the_checks_find_what_they_look_for(self):
        for rule, text in SAMPLES:
            with self.subTest(rule=rule, text=text[:80]), warnings.catch_warnings():
                warnings.simplefilter("ignore")
                self.assertIn(rule, {found for found, _ in complaints(text)})

    def test_every_file(self):
        for name, text in self.files.items():
            self.assertEqual(complaints(text), [], name)

    def test_the_folder_holds_only_the_files(self):
        for path in PACKAGE.iterdir():
            if path.name != "__pycache__":
                self.assertRegex(path.name, r"\A([a-z][a-z0-9_]*|__init__)\.py\Z")
        self.assertIn("__init__", self.files)

    def test_the_interface_is_defined_where_it_is_listed(self):
        for name, expected in DEFINED.items():
            defined = {node.name for node in self.trees[name].body
                       if isinstance(node, (ast.FunctionDef, ast.ClassDef))}
            self.assertEqual(set(expected) - defined, set())

    def test_imports_name_the_file_that_defines(self):
        for tree in self.trees.values():
            for source, name in imported(tree):
                body = self.trees[source].body
                parts = body + [part for node in body for part in getattr(node, "targets", [])]
                own = [part for part in parts if not isinstance(part, ast.ImportFrom)]
                self.assertIn(name, [found for part in own for found in bound(part)])

    def test_no_two_files_import_from_each_other(self):
        left = {name: {source for source, _ in imported(tree)} for name, tree in self.trees.items()}
        while left:
            ready = [name for name in left if not left[name] & set(left)]
            self.assertTrue(ready, left)
            left = {name: left[name] for name in left if name not in ready}

    def test_no_name_is_that_of_an_import_or_a_class(self):
        for name, tree in self.trees.items():
            outer = {found for node in tree.body if isinstance(node, (ast.ImportFrom, ast.ClassDef))
                     for found in bound(node)}
            inner = [found for node in ast.walk(tree) if isinstance(node, (ast.arg, ast.Name))
                     for found in bound(node)]
            self.assertEqual(outer & set(inner), set(), name)


if __name__ == "__main__":
    unittest.main()
