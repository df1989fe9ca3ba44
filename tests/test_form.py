"""The form of the package's files: the rules of LANGUAGE.md, so far as they can be seen by a walk over them."""

import ast
import builtins
import pathlib
import re
import unittest

PACKAGE = pathlib.Path(__file__).resolve().parent.parent / "papervault"

ERRORS = set("""
    Exception ValueError TypeError KeyError IndexError LookupError ZeroDivisionError ArithmeticError OverflowError
    RuntimeError NotImplementedError AttributeError StopIteration""".split())
OWN_NAMES = ERRORS | set("""
    len range enumerate zip min max sum abs sorted reversed int str bool list tuple dict set frozenset isinstance ord
    repr any all divmod""".split())
METHODS = set("""
    append clear copy count endswith extend find get index insert isalnum isalpha isdigit islower isspace isupper items
    join keys ljust lower lstrip partition pop remove replace reverse rfind rjust rpartition rsplit rstrip setdefault
    split splitlines startswith strip update upper values zfill bit_length""".split())
DUNDERS = {"__init__", "__eq__", "__repr__", "__str__", "__len__"}
KEYWORDS = {"sorted": {"key", "reverse"}, "min": {"key", "default"}, "max": {"key", "default"}, "sum": {"start"},
            "enumerate": {"start"}, "zip": {"strict"}}
UNUSED_ANYWHERE = set("""
    register mro elements open input version_info with_traceback add_note format format_map""".split())
UNUSED_NAMES = set("""
    attrgetter breakpoint builtins compile copyright credits delattr dir eval exec exit gc getattr globals hasattr help
    id importlib license locals methodcaller os quit setattr super type vars chr print sys __name__""".split())
WORDS = re.compile(r"\b(type|typing|typing_extensions|enum|Enum|IntEnum|StrEnum|Flag|IntFlag|Generic|Protocol|ABC|"
                   r"ABCMeta|namedtuple|NamedTuple|TypedDict|TYPE_CHECKING|abstractmethod)\b|"
                   r"dataclass|overload|contextmanager")
STATEMENTS = (ast.Assign, ast.AugAssign, ast.If, ast.While, ast.For, ast.Return, ast.Break, ast.Continue, ast.Pass,
              ast.Raise, ast.Try, ast.Expr, ast.FunctionDef, ast.ClassDef, ast.ImportFrom)
EXPRESSIONS = (ast.BoolOp, ast.BinOp, ast.UnaryOp, ast.Lambda, ast.IfExp, ast.Dict, ast.Set, ast.ListComp, ast.Compare,
               ast.Call, ast.JoinedStr, ast.FormattedValue, ast.Constant, ast.Attribute, ast.Subscript, ast.Name,
               ast.List, ast.Tuple, ast.Slice)
WALKED = ("zip", "enumerate", "reversed", "range")
WALKERS = ("list", "tuple", "dict", "sorted", "sum", "any", "all", "enumerate", "zip", "min", "max")
# L26: the names that Python's own values have, but those that a value of an object may have all the same.
TAKEN = {name for kind in (str, int, list, dict, set, bytes, tuple, Exception) for name in dir(kind)}
TAKEN -= set("count index title find get join lower upper split strip copy add".split())
NAME = re.compile(r"[A-Za-z][A-Za-z0-9_]*")


def is_text(node):
    return isinstance(node, ast.Constant) and isinstance(node.value, str)


def is_docstring(node):
    return isinstance(node, ast.Expr) and is_text(node.value)


def is_plain(node):
    """L3: a plain value, or a list, tuple or dict of such."""
    if isinstance(node, ast.Constant):
        return True
    if isinstance(node, ast.UnaryOp) and isinstance(node.op, ast.USub):
        return is_plain(node.operand)
    if isinstance(node, (ast.List, ast.Tuple)):
        return all(is_plain(part) or isinstance(part, ast.Name) for part in node.elts)
    if isinstance(node, ast.Dict):
        return all(is_plain(part) or isinstance(part, ast.Name) for part in node.keys + node.values)
    return False


def line_faults(text):
    rows = text.split("\n")
    if len(rows) > 401:
        yield 401, "L10 too many lines"
    for number, row in enumerate(rows, 1):
        if len(row) > 120:
            yield number, "L10 a line too long"
        if not all(" " <= sign <= "~" for sign in row):
            yield number, "L14 a sign that may not stand there"
        if WORDS.search(row):
            yield number, "L17 a word that may not stand there"


def top_faults(tree):
    bound = []
    for place, node in enumerate(tree.body):
        if isinstance(node, (ast.FunctionDef, ast.ClassDef)):
            bound.append(node.name)
        elif isinstance(node, ast.ImportFrom):
            bound.extend(alias.name for alias in node.names)
        elif isinstance(node, ast.Assign) and isinstance(node.targets[0], ast.Name) and is_plain(node.value):
            bound.append(node.targets[0].id)
        elif not (place == 0 and is_docstring(node)):
            yield node.lineno, "L3 nothing such stands at the top"
    for name in bound:
        if bound.count(name) > 1:
            yield 1, "L15 a name is bound twice: " + name
    kept = {alias.name for node in tree.body if isinstance(node, ast.ImportFrom) for alias in node.names}
    kept |= {node.name for node in tree.body if isinstance(node, ast.ClassDef)} | set(dir(builtins))
    for node in ast.walk(tree):
        if isinstance(node, ast.arg) and node.arg in kept:
            yield node.lineno, "L15 a parameter called like another thing"
        if isinstance(node, ast.Name) and isinstance(node.ctx, ast.Store) and node.id in kept:
            yield node.lineno, "L15 a name called like another thing"


def statement_faults(node):
    if not isinstance(node, STATEMENTS):
        yield "L6 no such statement"
    if isinstance(node, (ast.For, ast.While)) and node.orelse:
        yield "L6 else behind a loop"
    if isinstance(node, ast.Assign) and (len(node.targets) != 1 or isinstance(node.targets[0], (ast.Tuple, ast.List))):
        yield "L6 one target in an assignment"
    if isinstance(node, ast.Expr) and not (isinstance(node.value, ast.Call) or is_text(node.value)):
        yield "L6 a value by itself"
    if isinstance(node, ast.Try):
        if node.finalbody:
            yield "L6 finally"
        for handler in node.handlers:
            if handler.type is None or {"Exception", "TypeError"} & {part.id for part in ast.walk(handler.type)
                                                                     if isinstance(part, ast.Name)}:
                yield "L19 too much is taken"
    if isinstance(node, ast.FunctionDef):
        yield from function_faults(node)
    if isinstance(node, ast.ClassDef):
        yield from class_faults(node)


def function_faults(node):
    given = node.args
    if given.vararg or given.kwarg or given.kwonlyargs or given.posonlyargs or node.decorator_list:
        yield "L4 plain parameters alone"
    if not all(is_plain(value) for value in given.defaults):
        yield "L4 a default that is not plain"
    if node.returns or any(argument.annotation for argument in given.args):
        yield "L21 an annotation"
    if node.end_lineno - node.lineno >= 40:
        yield "L10 a function too long"


def class_faults(node):
    if len(node.bases) > 1 or node.keywords or node.decorator_list:
        yield "L5 a plain class alone"
    if node.col_offset:
        yield "L15 a class stands at the top"
    defined = [part.name for part in node.body if isinstance(part, ast.FunctionDef)]
    if len(set(defined)) != len(defined):
        yield "L18 a method twice"
    for part in node.body:
        if not isinstance(part, (ast.FunctionDef, ast.Pass)) and not is_docstring(part):
            yield "L5 a value in a class's body"


def expression_faults(node):
    if not isinstance(node, EXPRESSIONS):
        yield "L7 no such expression"
    if isinstance(node, ast.Constant):
        if not (node.value is None or isinstance(node.value, (int, str))):
            yield "L7 no such value"
        if is_text(node) and "%" in node.value:
            yield "L27 a percent sign in a text"
    if isinstance(node, ast.BinOp):
        if isinstance(node.op, (ast.Div, ast.MatMult)):
            yield "L7 no such reckoning"
        if isinstance(node.op, ast.Pow) and not (isinstance(node.right, ast.Constant) and 0 <= node.right.value <= 64):
            yield "L27 an exponent that is not written"
    if isinstance(node, ast.ListComp) and (len(node.generators) != 1 or len(node.generators[0].ifs) > 1):
        yield "L7 a comprehension with one for and at most one if"
    if isinstance(node, ast.FormattedValue) and (not isinstance(node.value, ast.Name) or node.format_spec
                                                 or node.conversion not in (-1, ord("r"))):
        yield "L7 a plain name in an f-string"
    if isinstance(node, ast.Compare):
        sides = [node.left] + node.comparators
        for place, sign in enumerate(node.ops):
            pair = sides[place:place + 2]
            plain = any(isinstance(side, ast.Constant) and side.value in (None, True, False) for side in pair)
            if isinstance(sign, (ast.Is, ast.IsNot)) and not plain:
                yield "L20 is beside None, True, False alone"
    if isinstance(node, ast.Call):
        name = node.func.id if isinstance(node.func, ast.Name) else ""
        if name in OWN_NAMES and {word.arg for word in node.keywords} - KEYWORDS.get(name, set()):
            yield "L22 a keyword"


def name_faults(node):
    name = getattr(node, "id", getattr(node, "attr", getattr(node, "name", getattr(node, "arg", None))))
    if not isinstance(name, str) or isinstance(node, (ast.alias, ast.keyword)):
        return
    if not NAME.fullmatch(name) and name not in DUNDERS:
        yield "L12 no plain name: " + name
    if name in UNUSED_ANYWHERE or (isinstance(node, ast.Name) and name in UNUSED_NAMES):
        yield "L17 a name that is not used: " + name
    if isinstance(node, ast.Name) and hasattr(builtins, name) and name not in OWN_NAMES:
        yield "L8 no such name of Python's own: " + name


def called(node):
    """The name of what a call calls, and whether it is a method."""
    if not isinstance(node, ast.Call):
        return "", False
    if isinstance(node.func, ast.Attribute):
        return node.func.attr, True
    return getattr(node.func, "id", ""), False


def walk_faults(tree):
    """L23 and L24: what is walked on the spot, and sets."""
    fine = set()
    for node in ast.walk(tree):
        name, method = called(node)
        if isinstance(node, (ast.For, ast.comprehension)):
            fine.add(id(node.iter))
        if (name in WALKERS and not method) or (name == "join" and method):
            fine.update(id(part) for part in node.args)
        if isinstance(node, ast.Compare):
            fine.update(id(part) for part in [node.left] + node.comparators if called(part)[0] == "set")
        if name in ("sorted", "len") and not node.keywords:
            fine.update(id(part) for one in node.args for part in ast.walk(one) if called(part)[0] == "set")
    for node in ast.walk(tree):
        name, method = called(node)
        if id(node) not in fine and name in (("items", "keys", "values") if method else WALKED):
            yield node.lineno, "L23 walked on the spot: " + name
        if name in ("set", "frozenset") and not method and id(node) not in fine:
            yield node.lineno, "L24 a set is kept"


def file_faults(text):
    """The faults of one file: a list of (line, words)."""
    tree = ast.parse(text)
    found = list(line_faults(text)) + list(top_faults(tree)) + list(walk_faults(tree))
    for node in ast.walk(tree):
        for faults in (statement_faults(node) if isinstance(node, ast.stmt) else [],
                       expression_faults(node) if isinstance(node, ast.expr) else [], name_faults(node)):
            found.extend((getattr(node, "lineno", 0), words) for words in faults)
    return found


def defined_in(tree):
    """The names that a file's top defines itself."""
    names = [node.name for node in tree.body if isinstance(node, (ast.FunctionDef, ast.ClassDef))]
    return names + [node.targets[0].id for node in tree.body if isinstance(node, ast.Assign)]


def import_faults(trees):
    """L2 and L16 over a dict from modules' names to trees."""
    drawn = {name: [node for node in tree.body if isinstance(node, ast.ImportFrom)] for name, tree in trees.items()}
    for name, nodes in drawn.items():
        for node in nodes:
            if node.level or node.module not in trees:
                yield name, "L2 not one of the package's own files"
            elif not all(alias.name in defined_in(trees[node.module]) and not alias.asname for alias in node.names):
                yield name, "L16 not from the file that defines it"
    for name in drawn:
        reached, waiting = set(), [name]
        while waiting:
            for node in drawn.get(waiting.pop(), []):
                if node.module not in reached:
                    reached.add(node.module)
                    waiting.append(node.module)
        if name in reached:
            yield name, "L16 files draw from one another"


def member_faults(trees):
    """L18, L25 and L26 over the same: methods and values of objects."""
    nodes = [(name, node) for name, tree in trees.items() for node in ast.walk(tree)]
    classes = [node for name, node in nodes if isinstance(node, ast.ClassDef)]
    methods = {part.name for node in classes for part in node.body if isinstance(part, ast.FunctionDef)}
    called = {id(node.func) for name, node in nodes if isinstance(node, ast.Call)}
    stored = {node.attr for name, node in nodes if isinstance(node, ast.Attribute) and isinstance(node.ctx, ast.Store)}
    class_names = [one.name for one in classes]
    for name in sorted(stored & TAKEN):
        yield name, "L26 no name for a value"
    for name in sorted(methods & stored):
        yield name, "L18 a method in one class and a value in another"
    for name, node in nodes:
        if not isinstance(node, ast.Attribute):
            continue
        if isinstance(node.value, ast.Name) and node.value.id in class_names and node.attr != "__init__":
            yield name, "L18 a class is not asked for its values"
        if id(node) in called and node.attr not in methods | METHODS:
            yield name, "L25 no such method: " + node.attr
        if id(node) not in called and node.attr not in stored:
            yield name, "L25 a method is called where it stands: " + node.attr


def package_trees():
    trees = {}
    for path in sorted(PACKAGE.rglob("*.py")):
        parts = ("papervault",) + path.relative_to(PACKAGE).with_suffix("").parts
        trees[".".join(parts)] = ast.parse(path.read_text(encoding="utf-8"))
    return trees


class Form(unittest.TestCase):

    def test_only_files_of_the_program_lie_in_the_package(self):
        for path in PACKAGE.rglob("*"):
            if "__pycache__" in path.parts:
                continue
            if path.is_dir():
                self.assertTrue((path / "__init__.py").is_file(), path)
            else:
                self.assertRegex(path.name, r"\A(__init__|__main__|[a-z][a-z0-9_]*)\.py\Z")
            self.assertNotRegex(path.stem, r"\A(test.*|site|conftest|sitecustomize|usercustomize)\Z")
            if not path.stem.startswith("__"):
                self.assertFalse(hasattr(builtins, path.stem), path)
        self.assertTrue((PACKAGE / "__init__.py").is_file())

    def test_each_file(self):
        for path in sorted(PACKAGE.rglob("*.py")):
            self.assertEqual(file_faults(path.read_text(encoding="utf-8")), [], path)

    def test_all_files_together(self):
        self.assertEqual(list(import_faults(package_trees())), [])
        self.assertEqual(list(member_faults(package_trees())), [])


class FormIsSeen(unittest.TestCase):
    """What breaks a rule is found."""

    def test_in_one_file(self):
        for rule, text in [
                ("L3", "x = 2 ** 3\n"), ("L3", "print(1)\n"), ("L4", "def f(*rest):\n    pass\n"),
                ("L5", "class A:\n    x = 1\n"), ("L6", "def f(x):\n    assert x\n"),
                ("L6", "def f(x):\n    a, b = x\n"), ("L7", "def f(x):\n    return x / 2\n"), ("L7", "x = 1.5\n"),
                ("L7", "def f(x):\n    return any(y for y in x)\n"), ("L7", "def f(x):\n    return f'{x + 1}'\n"),
                ("L8", "def f(x):\n    return hash(x)\n"), ("L10", "def f():\n" + "    pass\n" * 40),
                ("L12", "def _f():\n    pass\n"), ("L14", "# \u00e4\n"), ("L15", "def f(id):\n    pass\n"),
                ("L15", "x = 1\nx = 2\n"), ("L17", "# a type\n"), ("L17", "def f(x):\n    return chr(x)\n"),
                ("L19", "def f(x):\n    try:\n        x()\n    except Exception:\n        pass\n"),
                ("L20", "def f(x, y):\n    return x is y\n"), ("L21", "def f(x: int):\n    pass\n"),
                ("L22", "def f(x):\n    return int(x, base=2)\n"), ("L23", "def f(x):\n    return reversed(x)\n"),
                ("L23", "def f(x):\n    y = x.items()\n    return y\n"), ("L24", "def f(x):\n    return set(x)\n"),
                ("L27", "def f(n):\n    return 2 ** n\n"),
                ("L27", "x = '%'\n")]:
            self.assertIn(rule, [words.split()[0] for line, words in file_faults(text)], text)

    def test_in_several_files(self):
        one = "from papervault.b import g\ndef f():\n    pass\n"
        other = "from papervault.a import f\ndef g(x):\n    x.keys = 1\n    return x.casefold()\n"
        trees = {"papervault.a": ast.parse(one), "papervault.b": ast.parse(other)}
        self.assertIn("L16", [words.split()[0] for name, words in import_faults(trees)])
        for rule in ("L25", "L26"):
            self.assertIn(rule, [words.split()[0] for name, words in member_faults(trees)])


if __name__ == "__main__":
    unittest.main()
