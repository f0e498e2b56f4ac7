"""Holds the package's files against those rules of LANGUAGE.md that a look at the syntax can tell."""

import ast
import builtins
import io
import pathlib
import re
import tokenize
import unittest

PACKAGE = pathlib.Path(__file__).resolve().parent.parent / "longrounds"

STATEMENTS = (
    ast.FunctionDef, ast.ClassDef, ast.ImportFrom, ast.Assign, ast.AugAssign, ast.If, ast.While, ast.For,
    ast.Return, ast.Break, ast.Continue, ast.Pass, ast.Raise, ast.Try, ast.Expr,
)
OUTSIDE = (
    ast.Div, ast.MatMult, ast.SetComp, ast.DictComp, ast.GeneratorExp, ast.NamedExpr, ast.Starred,
    ast.Yield, ast.YieldFrom, ast.Await,
)
ALLOWED_BUILTINS = set(
    "len range enumerate zip min max sum abs sorted reversed int str bool list tuple dict set frozenset isinstance "
    "ord repr any all divmod Exception ValueError TypeError KeyError IndexError LookupError ZeroDivisionError "
    "ArithmeticError OverflowError RuntimeError NotImplementedError AttributeError StopIteration".split()
)
BUILTINS = set(dir(builtins))
WORDS = (
    "type typing typing_extensions enum Enum IntEnum StrEnum Flag IntFlag Generic Protocol ABC ABCMeta namedtuple "
    "NamedTuple TypedDict TYPE_CHECKING abstractmethod"
).split()
WITHIN_WORDS = ("dataclass", "overload", "contextmanager")
NAMES = set(
    "register mro elements open input version_info with_traceback add_note attrgetter breakpoint builtins compile "
    "copyright credits delattr dir eval exec exit gc getattr globals hasattr help id importlib license locals "
    "methodcaller os quit setattr super sys vars".split()
)
METHODS = set(
    "append clear copy count endswith extend find get index insert isalnum isalpha isdigit islower isspace isupper "
    "items join keys ljust lower lstrip partition pop remove replace reverse rfind rjust rpartition rsplit rstrip "
    "setdefault split splitlines startswith strip update upper values zfill bit_length".split()
)
BESIDE_SETS = (ast.In, ast.NotIn, ast.Eq, ast.NotEq)
CHANGES = set("append clear extend insert pop remove reverse setdefault update".split())
WALKS = set("range zip enumerate reversed".split())
WALK_METHODS = set("items keys values".split())
WALKERS = set("list tuple dict sorted sum any all enumerate zip min max".split())
KEYWORDS = {
    "sorted": {"key", "reverse"}, "min": {"key", "default"}, "max": {"key", "default"}, "sum": {"start"},
    "enumerate": {"start"}, "zip": {"strict"},
}


def files():
    return sorted(PACKAGE.glob("*.py"))


def faults_of_text(text):
    for number, line in enumerate(text.split("\n"), 1):
        if len(line) > 120:
            yield number, "L10: a line of more than 120 characters"
        if re.search(r"[^ -~]", line):
            yield number, "L14: a sign that is not one from the blank to ~"
        for word in re.findall(r"\w+", line):
            if word in WORDS or any(part in word for part in WITHIN_WORDS):
                yield number, f"L17: the word {word}"
    if text.count("\n") > 400:
        yield 400, "L10: more than 400 lines"


def bound_names(tree):
    for node in ast.walk(tree):
        if isinstance(node, (ast.FunctionDef, ast.ClassDef)):
            yield node.lineno, node.name
        elif isinstance(node, ast.arg):
            yield node.lineno, node.arg
        elif isinstance(node, ast.Name) and isinstance(node.ctx, ast.Store):
            yield node.lineno, node.id


def faults_of_names(tree):
    for line, name in bound_names(tree):
        if name in BUILTINS:
            yield line, f"L8: {name} given another meaning"
        if not re.fullmatch(r"[A-Za-z]\w*|__(init|eq|repr|str|len|all|version)__", name):
            yield line, f"L12: the name {name}"
    for node in ast.walk(tree):
        if isinstance(node, ast.Name):
            if node.id in NAMES:
                yield node.lineno, f"L17: the name {node.id}"
            if node.id in BUILTINS and node.id not in ALLOWED_BUILTINS:
                yield node.lineno, f"L8: the built-in name {node.id}"
        if isinstance(node, ast.Attribute) and node.attr not in METHODS:
            yield node.lineno, f"L25: the attribute {node.attr}"


def faults_of_statements(tree):
    for node in ast.walk(tree):
        if isinstance(node, ast.stmt) and not isinstance(node, STATEMENTS):
            yield node.lineno, f"L6: the statement {type(node).__name__}"
        if isinstance(node, ast.Assign) and (len(node.targets) > 1 or isinstance(node.targets[0], ast.Tuple)):
            yield node.lineno, "L6: more than one target"
        if isinstance(node, (ast.For, ast.While)) and node.orelse:
            yield node.lineno, "L6: an else behind a loop"
        if isinstance(node, ast.Try) and node.finalbody:
            yield node.lineno, "L6: finally"
        if isinstance(node, ast.Expr) and not isinstance(node.value, ast.Call) and node is not tree.body[0]:
            yield node.lineno, "L6: an expression by itself that is no call"


def faults_of_expressions(tree):
    for node in ast.walk(tree):
        if isinstance(node, OUTSIDE):
            yield getattr(node, "lineno", 0), f"L7: {type(node).__name__}"
        if isinstance(node, ast.Constant) and isinstance(node.value, (float, complex, bytes)):
            yield node.lineno, "L7: a float or bytes"
        if isinstance(node, ast.Constant) and isinstance(node.value, str) and "%" in node.value:
            yield node.lineno, "L27: the sign % within a text"
        if isinstance(node, ast.ListComp) and (len(node.generators) > 1 or len(node.generators[0].ifs) > 1):
            yield node.lineno, "L7: a comprehension with more than one for or if"
        if isinstance(node, ast.BinOp) and isinstance(node.op, ast.Pow):
            if not isinstance(node.right, ast.Constant) or node.right.value not in range(65):
                yield node.lineno, "L27: a power that is not written out, from 0 to 64"
        if isinstance(node, ast.Compare) and any(isinstance(op, (ast.Is, ast.IsNot)) for op in node.ops):
            beside = [node.left] + node.comparators
            if not any(isinstance(it, ast.Constant) and it.value in (None, True, False) for it in beside):
                yield node.lineno, "L20: is"


def faults_of_defs(tree):
    for node in ast.walk(tree):
        if isinstance(node, ast.FunctionDef):
            if node.end_lineno - node.lineno + 1 > 40:
                yield node.lineno, "L10: a function of more than 40 lines"
            plain = node.args
            if node.decorator_list or plain.vararg or plain.kwarg or plain.kwonlyargs or plain.posonlyargs:
                yield node.lineno, "L4: parameters that are not plain, or a decorator"
        if isinstance(node, ast.ClassDef):
            if node.decorator_list or node.keywords or len(node.bases) > 1:
                yield node.lineno, "L5: a decorator or more than one base"
            # Narrower than the rules: with no methods and no values nothing of L18, L26 and L28 is left to ask.
            if not all(isinstance(part, ast.Pass) for part in node.body):
                yield node.lineno, "L5, L18, L26, L28: a class that is more than a name"


def faults_of_locals(tree):
    taken = {name.asname or name.name for node in tree.body if isinstance(node, ast.ImportFrom) for name in node.names}
    taken |= {node.name for node in tree.body if isinstance(node, ast.ClassDef)}
    for node in ast.walk(tree):
        if isinstance(node, ast.FunctionDef):
            for line, name in bound_names(node):
                if name in taken:
                    yield line, f"L15: {name} is a class or an import of the file"
            notes = [node.returns] + [arg.annotation for arg in node.args.args]
            if any(note is not None for note in notes):
                yield node.lineno, "L21: an annotation"


def is_walk(node):
    if not isinstance(node, ast.Call):
        return False
    if isinstance(node.func, ast.Name):
        return node.func.id in WALKS
    return isinstance(node.func, ast.Attribute) and node.func.attr in WALK_METHODS


def walked_on_the_spot(node):
    if isinstance(node, (ast.For, ast.comprehension)):
        return [node.iter]
    if isinstance(node, ast.Call) and isinstance(node.func, ast.Name) and node.func.id in WALKERS:
        return node.args if node.func.id == "zip" else node.args[:1]
    if isinstance(node, ast.Call) and isinstance(node.func, ast.Attribute) and node.func.attr == "join":
        return node.args
    return []


def faults_of_calls(tree):
    fine = [id(walk) for node in ast.walk(tree) for walk in walked_on_the_spot(node)]
    for node in ast.walk(tree):
        if is_walk(node) and id(node) not in fine:
            yield node.lineno, "L23: kept, not walked on the spot"
        if isinstance(node, ast.Call) and isinstance(node.func, ast.Name) and node.func.id in BUILTINS:
            if not {word.arg for word in node.keywords} <= KEYWORDS.get(node.func.id, set()):
                yield node.lineno, f"L22: a keyword at {node.func.id}"


def kept_values(tree):
    """Python's own names and methods where they are neither called nor stand where the rules let them."""
    fine = set()
    for node in ast.walk(tree):
        if isinstance(node, ast.Call):
            fine.add(id(node.func))
            fine |= {id(word.value) for word in node.keywords if word.arg == "key"}
            if isinstance(node.func, ast.Name) and node.func.id == "isinstance":
                fine |= {id(part) for part in ast.walk(node.args[1])}
        if isinstance(node, ast.ClassDef):
            fine |= {id(base) for base in node.bases}
        if isinstance(node, ast.ExceptHandler) and node.type is not None:
            fine |= {id(part) for part in ast.walk(node.type)}
    for node in ast.walk(tree):
        own = isinstance(node, ast.Name) and node.id in BUILTINS or isinstance(node, ast.Attribute)
        if own and isinstance(node.ctx, ast.Load) and id(node) not in fine:
            yield node


def faults_of_values(tree):
    for node in kept_values(tree):
        yield node.lineno, "L22, L25: a name or a method of Python's own that is not called where it stands"
    for node in ast.walk(tree):
        if isinstance(node, ast.FormattedValue):
            if not isinstance(node.value, ast.Name) or node.format_spec or node.conversion not in (-1, ord("r")):
                yield node.lineno, "L7: an f-string with more than a plain name"


def is_set(node):
    if isinstance(node, ast.BinOp):
        return is_set(node.left) or is_set(node.right)
    called = isinstance(node, ast.Call) and isinstance(node.func, ast.Name) and node.func.id in ("set", "frozenset")
    return called or isinstance(node, ast.Set)


def faults_of_sets(tree):
    fine = set()
    for node in ast.walk(tree):
        beside = []
        if isinstance(node, ast.Compare) and all(isinstance(op, BESIDE_SETS) for op in node.ops):
            beside = [node.left] + node.comparators
        if isinstance(node, ast.Call) and isinstance(node.func, ast.Name) and node.func.id in ("sorted", "len"):
            beside = [] if node.keywords else node.args
        fine |= {id(part) for side in beside if is_set(side) for part in ast.walk(side)}
    for node in ast.walk(tree):
        if is_set(node) and id(node) not in fine:
            yield node.lineno, "L24: a set that is kept or walked"


def is_let_within_try(node):
    """Whether a part of what stands round ValueError, LookupError or IndexError is one that the rules let."""
    if isinstance(node, ast.Call):
        if isinstance(node.func, ast.Attribute):
            return node.func.attr in ("index", "remove")
        return isinstance(node.func, ast.Name) and node.func.id in ("int", "str")
    if isinstance(node, ast.BinOp):
        return not isinstance(node.op, (ast.Mult, ast.Pow, ast.Mod, ast.LShift, ast.RShift))
    return not isinstance(node, (ast.JoinedStr, ast.Slice, ast.Lambda))


def faults_of_errors(tree):
    for node in ast.walk(tree):
        if isinstance(node, ast.Try):
            taken = {part.id for it in node.handlers for part in ast.walk(it.type or it) if isinstance(part, ast.Name)}
            within = [part for row in node.body for part in ast.walk(row)]
            if taken & {"ValueError", "LookupError", "IndexError"} and not all(map(is_let_within_try, within)):
                yield node.lineno, "L19: an error of Python's own taken round more than what may raise it"
        if isinstance(node, ast.ExceptHandler):
            names = [part.id for part in ast.walk(node.type or node) if isinstance(part, ast.Name)]
            if node.type is None or "Exception" in names or "TypeError" in names:
                yield node.lineno, "L19: an error that is not taken by its name"
        if isinstance(node, ast.Raise) and not isinstance(node.exc, ast.Call):
            yield node.lineno, "L19: an error that is not made on the spot"


def walked_names(loop):
    walked = [loop.iter]
    if isinstance(loop.iter, ast.Call):
        walked = list(loop.iter.args)
        if isinstance(loop.iter.func, ast.Attribute):
            walked.append(loop.iter.func.value)
    return {part.id for part in walked if isinstance(part, ast.Name)}


def changed_names(part):
    for node in ast.walk(part):
        if isinstance(node, ast.Subscript) and isinstance(node.ctx, ast.Store) and isinstance(node.value, ast.Name):
            yield node.value.id
        if isinstance(node, ast.Call) and isinstance(node.func, ast.Attribute) and node.func.attr in CHANGES:
            if isinstance(node.func.value, ast.Name):
                yield node.func.value.id


def faults_of_changes(tree):
    plain = [node for node in tree.body if isinstance(node, ast.Assign)]
    top = {target.id for node in plain for target in node.targets if isinstance(target, ast.Name)}
    if top & set(changed_names(tree)):
        yield 1, "L15: a list or dict of the top that is changed"
    for node in plain:
        for part in ast.walk(node.value):
            if part is not node.value and isinstance(part, (ast.List, ast.Dict)):
                yield node.lineno, "L15: a list or dict within another value of the top"
    for node in ast.walk(tree):
        if isinstance(node, ast.For):
            for name in walked_names(node) & {name for part in node.body for name in changed_names(part)}:
                yield node.lineno, f"L23: {name} is changed while it is walked"


def faults_of_escapes(text):
    for token in tokenize.generate_tokens(io.StringIO(text).readline):
        if token.type == tokenize.STRING and re.search(r"\\[^nt\\'\"\n]", token.string.replace("\\\\", "")):
            yield token.start[0], "L27: an escape beyond those for line ends, tabs, quotes and itself"


def faults_of_top(tree):
    names = []
    for node in tree.body:
        if isinstance(node, ast.ImportFrom):
            if node.level or not node.module.startswith("longrounds."):
                yield node.lineno, "L2: an import from beyond the package"
            names += [name.asname or name.name for name in node.names]
        elif isinstance(node, (ast.FunctionDef, ast.ClassDef)):
            names.append(node.name)
        elif isinstance(node, ast.Assign):
            names += [target.id for target in node.targets if isinstance(target, ast.Name)]
            if any(isinstance(part, (ast.BinOp, ast.Call, ast.ListComp)) for part in ast.walk(node.value)):
                yield node.lineno, "L3: a value that is not plain"
        elif node is not tree.body[0]:
            yield node.lineno, "L3: something else at the top"
    for name in set(names):
        if names.count(name) > 1:
            yield 1, f"L15: {name} bound more than once"


def faults(text):
    tree = ast.parse(text)
    checks = (
        faults_of_names, faults_of_statements, faults_of_expressions, faults_of_defs, faults_of_locals,
        faults_of_calls, faults_of_values, faults_of_sets, faults_of_errors, faults_of_changes, faults_of_top,
    )
    told = list(faults_of_text(text)) + list(faults_of_escapes(text))
    for check in checks:
        told += check(tree)
    return told


class LanguageTest(unittest.TestCase):
    def test_the_folder_holds_python_files_alone(self):
        for path in PACKAGE.iterdir():
            if path.name != "__pycache__":
                self.assertRegex(path.name, r"^([a-z][a-z0-9_]*|__init__)\.py$")
        self.assertIn("__init__.py", [path.name for path in files()])

    def test_each_file_keeps_to_the_rules(self):
        for path in files():
            self.assertEqual(faults(path.read_text(encoding="utf-8")), [], path.name)

    def test_no_two_files_draw_from_one_another(self):
        drawn = {}
        for path in files():
            tree = ast.parse(path.read_text(encoding="utf-8"))
            rows = [node.module for node in ast.walk(tree) if isinstance(node, ast.ImportFrom)]
            drawn[path.stem] = [row.split(".")[1] for row in rows]
        while drawn:
            free = [name for name in drawn if not any(other in drawn for other in drawn[name])]
            self.assertTrue(free, f"L16: these draw from one another: {sorted(drawn)}")
            for name in free:
                drawn.pop(name)

    def test_each_name_is_drawn_from_the_file_that_defines_it(self):
        trees = {path.stem: ast.parse(path.read_text(encoding="utf-8")) for path in files()}
        for stem, tree in trees.items():
            for node in tree.body:
                if isinstance(node, ast.ImportFrom):
                    drawn = trees[node.module.split(".")[1]]
                    defined = [it.name for it in drawn.body if isinstance(it, (ast.FunctionDef, ast.ClassDef))]
                    defined += [it.targets[0].id for it in drawn.body if isinstance(it, ast.Assign)]
                    for name in node.names:
                        self.assertIn(name.name, defined, f"L16: {stem} draws it from elsewhere")

    def test_the_checks_see_what_is_outside(self):
        outside = (
            "import os", "from math import gcd", "from .errors import LongError", "a = b = 1", "a, b = 1, 2",
            "x = 1 / 2", "x = 1.5", "x = {y for y in z}", "x = sum(y for y in z)", "x = [1 for y in z for w in y]",
            "def f(*a):\n    pass", "def f(x):\n    'words'", "def f(x):\n    assert x", "def f(id):\n    return 1",
            "def f(x):\n    return pow(x, 2)", "def f(x):\n    return x ** x", "def f(x):\n    return x is x",
            "def f(x):\n    return x.sort()", "class A:\n    x = 1", "# type", "x = 1\nx = 2", "_x = 1",
            "def f(x):\n" + "    x = 1\n" * 40, "# " + "x" * 120, "# \u00e9", "x = '%'", "print(1)",
            "x = 10 ** 30", "def f(x):\n    return x ** 65", "def f(x):\n    y = range(x)\n    return y",
            "def f(x):\n    return x in range(3)", "def f(x):\n    return x.items()", "def f(x: int):\n    return x",
            "def f(x):\n    return sum([x], key=x)",
            "def f(x):\n    return len", "def f(x):\n    return x.append", "def f(x):\n    return [int, x]",
            "def f(x):\n    return f'{x + 1}'", "def f(x):\n    return f'{x:3}'", "def f(x):\n    return f'{x!s}'",
            "def f(x):\n    y = set(x)\n    return y", "def f(x):\n    return [y for y in set(x)]",
            "def f(x):\n    return {1, x}", "def f(x):\n    return set(x) - set([1])",
            "def f(x):\n    try:\n        return 1\n    except Exception:\n        return 2",
            "def f(x):\n    try:\n        return 1\n    except:\n        return 2",
            "def f(x):\n    raise ValueError", "def f(x):\n    raise x",
            "def f(x):\n    try:\n        return f(x)\n    except ValueError:\n        return 2",
            "def f(x):\n    try:\n        return int(x[1:])\n    except ValueError:\n        return 2",
            "def f(x):\n    try:\n        return x[1] * 2\n    except IndexError:\n        return 2",
            "class A:\n    def f(self):\n        return 1",
            "def f(x):\n    for y in x:\n        x.append(y)", "def f(x):\n    for y in x:\n        x[y] = 1",
            "def f(x):\n    for k, y in enumerate(x):\n        x[k] = y",
            "def f(x):\n    for y, z in x.items():\n        x.pop(y)",
            "a = [1]\ndef f(x):\n    a.append(x)", "a = {}\ndef f(x):\n    a[x] = 1", "a = [[1]]", "a = ({},)",
            "a = '\\x41'", "a = '\\u0041'", "a = '\\r'",
            "from longrounds.tables import worth\ndef f(worth):\n    return worth",
            "from longrounds.tables import worth\ndef f(x):\n    worth = x\n    return worth",
        )
        for text in outside:
            self.assertNotEqual(faults(text + "\n"), [], text)

    def test_the_checks_let_pass_what_is_within(self):
        within = (
            "a = [(1, 2)]", "a = 'x\\n\\t\\\\y\\''", "def f(x):\n    return len(set(x)) + len(set(x) - set([1]))",
            "def f(x):\n    return x in {1, 2, 3}", "def f(x):\n    return set(x) == set([1])",
            "def f(x):\n    return sorted(x, key=len)", "def f(x):\n    return isinstance(x, (int, str))",
            "def f(x):\n    return f'{x} and {x!r}'", "def f(x):\n    raise ValueError('words')",
            "def f(x):\n    try:\n        return int(x)\n    except ValueError:\n        return 0",
            "def f(x):\n    try:\n        return x[1]\n    except IndexError:\n        return 0",
            "class A(ValueError):\n    pass\ndef f(x):\n    try:\n        return f(x)\n    except A:\n        return 0",
            "def f(x):\n    y = []\n    for z in x:\n        y.append(z)\n    return y",
            "a = [1]\ndef f(x):\n    return a[x]",
        )
        for text in within:
            self.assertEqual(faults(text + "\n"), [], text)
