"""Rules of the language subset that the form of the files shows."""

import ast
import builtins
import pathlib
import re
import unittest
import warnings

FOLDER = pathlib.Path(__file__).resolve().parent.parent / "unnamedlives"
PATHS = sorted(FOLDER.glob("*.py"))
BUILTINS = set(
    "len range enumerate zip min max sum abs sorted reversed int str bool list tuple dict set isinstance ord repr any"
    " all divmod super property staticmethod classmethod Exception ValueError TypeError KeyError IndexError"
    " LookupError NotImplemented iter next map".split()
)
# Without the name that Python itself sets when it shows a value.
BUILT_IN = set(dir(builtins)) - {"_"}
DUNDERS = set(
    "__init__ __eq__ __len__ __call__ __iter__ __contains__ __getitem__ __or__ __rshift__ __repr__ __str__".split()
)
METHODS = set(
    "append clear copy count endswith extend find get index insert isalnum isalpha isdigit islower isspace isupper"
    " items join keys ljust lower lstrip partition pop remove replace reverse rfind rjust rpartition rsplit rstrip"
    " setdefault split splitlines startswith strip update upper values zfill bit_length add discard".split()
)
BUILTIN_ATTRIBUTES = {name for kind in (str, int, list, dict, set, bytes, tuple) for name in dir(kind)}
NEVER = set("register mro elements open input law version_info with_traceback add_note format format_map".split())
NEVER_WORDS = re.compile(
    r"\b(type|typing|typing_extensions|enum|Enum|IntEnum|StrEnum|Flag|IntFlag|Generic|Protocol|ABC|ABCMeta|namedtuple"
    r"|NamedTuple|TypedDict|TYPE_CHECKING|abstractmethod|_wall|_WallAttr)\b|dataclass|overload|contextmanager"
    r"|\(type\)|Meta|metaclass="
)
STATEMENTS = (
    ast.Expr, ast.Assign, ast.AugAssign, ast.If, ast.While, ast.For, ast.Return, ast.Break, ast.Continue, ast.Pass,
    ast.Raise, ast.Assert, ast.Delete, ast.Try, ast.FunctionDef, ast.ClassDef, ast.ImportFrom,
)
CHANGING = set("append clear extend insert pop remove reverse setdefault sort update add discard".split())
NOT_USED = (ast.Import, ast.Div, ast.MatMult, ast.Lambda, ast.Await, ast.NamedExpr, ast.Global, ast.Nonlocal)


def is_plain(node):
    """True if a value at module level or in a class is written out."""
    if isinstance(node, ast.UnaryOp):
        return isinstance(node.op, ast.USub) and is_plain(node.operand)
    if isinstance(node, (ast.Tuple, ast.List)):
        return all(is_plain(part) for part in node.elts)
    if isinstance(node, ast.Dict):
        return all(is_plain(part) for part in node.keys + node.values)
    return isinstance(node, ast.Constant) and not isinstance(node.value, float)


def bound_names(function):
    """The parameters and local variables of a function."""
    for node in ast.walk(function):
        if isinstance(node, ast.arg):
            yield node.arg
        elif isinstance(node, ast.Name) and isinstance(node.ctx, ast.Store):
            yield node.id
        elif isinstance(node, ast.FunctionDef) and node is not function:
            yield node.name


def top_names(tree):
    """The names that are bound at module level, each as often as it is bound."""
    for node in tree.body:
        if isinstance(node, (ast.FunctionDef, ast.ClassDef)):
            yield node.name
        elif isinstance(node, ast.ImportFrom):
            yield from (name.name for name in node.names)
        elif isinstance(node, ast.Assign):
            yield from (target.id for target in node.targets)


def imported_names(tree):
    return {name.name for row in tree.body if isinstance(row, ast.ImportFrom) for name in row.names}


def member_names(owner):
    """The methods, properties and class values of a class."""
    for row in owner.body:
        if isinstance(row, ast.FunctionDef):
            yield row.name
        elif isinstance(row, ast.Assign):
            yield row.targets[0].id


def is_used(tree, name):
    """True if the name is read anywhere in the file."""
    return any(isinstance(node, ast.Name) and node.id == name for node in ast.walk(tree))


def has_plain_default_values(function):
    arguments = function.args
    return all(is_plain(value) for value in arguments.defaults + arguments.kw_defaults if value is not None)


def is_member(row, at):
    """True if a row may stand in a class, as its row number `at`."""
    if isinstance(row, ast.Assign):
        return is_plain(row.value)
    if isinstance(row, ast.FunctionDef):
        if row.name.startswith("__"):
            return row.name in DUNDERS
        return row.name in METHODS or row.name not in BUILTIN_ATTRIBUTES
    return at == 0 and isinstance(row, ast.Expr)


def is_identity_allowed(node, tree):
    """True if `is` stands beside None, True and False only."""
    for sign, right in zip(node.ops, node.comparators):
        if isinstance(sign, (ast.Is, ast.IsNot)):
            if not isinstance(right, ast.Constant) or right.value not in (None, True, False):
                return False
    return True


def held(node):
    """The names, attributes and items, as texts, whose list or dict a value is or may be."""
    if isinstance(node, ast.IfExp):
        return held(node.body) | held(node.orelse)
    if isinstance(node, ast.BoolOp):
        return set().union(*map(held, node.values))
    if isinstance(node, (ast.Name, ast.Attribute, ast.Subscript)):
        return {ast.unparse(node)}
    return set()


def gone_over(node):
    """What a loop goes over that has this node behind its `in`; a list of its own has no name."""
    called = node.func if isinstance(node, ast.Call) else None
    if isinstance(called, ast.Name) and called.id in ("enumerate", "zip", "reversed"):
        return set().union(*map(gone_over, node.args))
    if isinstance(called, ast.Attribute) and called.attr in ("items", "keys", "values"):
        return held(called.value)
    return held(node)


def assigned(function):
    """The pairs of a target and a value of the assignments in a function."""
    for node in ast.walk(function):
        for target in node.targets if isinstance(node, ast.Assign) else []:
            yield target, node.value
            if isinstance(target, ast.Tuple) and isinstance(node.value, ast.Tuple):
                yield from zip(target.elts, node.value.elts)


def with_other_names(function, texts):
    """The texts, and those that may be other names of the same lists and dicts somewhere in the function."""
    groups = [held(target) | held(value) for target, value in assigned(function) if held(value)]
    known, before = set(texts), None
    while known != before:
        before = known
        known = known.union(*[group for group in groups if group & known])
    return known


def changed(node):
    """What a node changes itself, without the nodes inside it."""
    if isinstance(node, ast.Call) and isinstance(node.func, ast.Attribute) and node.func.attr in CHANGING:
        return held(node.func.value)
    if isinstance(node, ast.AugAssign):
        return held(node.target)
    if isinstance(node, ast.Subscript) and not isinstance(node.ctx, ast.Load):
        return held(node.value)
    return set()


def changing_loops(function):
    """The lines of the loops and comprehensions in which what they go over is changed, also by another name."""
    for node in ast.walk(function):
        sources = [node.iter] if isinstance(node, ast.For) else [each.iter for each in getattr(node, "generators", [])]
        texts = with_other_names(function, set().union(*map(gone_over, sources)))
        if any(changed(inner) & texts for inner in ast.walk(node)):
            yield node.lineno


class FormTest(unittest.TestCase):
    def setUp(self):
        self.trees = {}
        for path in PATHS:
            with warnings.catch_warnings():
                warnings.simplefilter("error")
                self.trees[path.stem] = ast.parse(path.read_text(encoding="utf-8"))

    def nodes(self, *kinds):
        for stem, tree in self.trees.items():
            for node in ast.walk(tree):
                if isinstance(node, kinds):
                    yield stem, node

    def every(self, kinds, holds):
        """Fails with the places of the nodes of these kinds for which the rule does not hold."""
        wrong = [f"{stem}.py:{node.lineno}" for stem, node in self.nodes(kinds) if not holds(node, self.trees[stem])]
        self.assertEqual(wrong, [])

    def test_files(self):
        self.assertIn("__init__", self.trees)
        for path in FOLDER.iterdir():
            if path.name != "__pycache__":
                self.assertIn(path, PATHS)
                self.assertRegex(path.name, r"^[a-z_][a-z0-9_]*\.py$")
                self.assertFalse(path.stem in BUILT_IN or path.stem in NEVER)

    def test_characters_and_sizes(self):
        for path in PATHS:
            text = path.read_text(encoding="utf-8")
            self.assertTrue(text.endswith("\n"))
            self.assertLessEqual(len(text.splitlines()), 399)
            for line in text.splitlines():
                with self.subTest(file=path.name, line=line):
                    self.assertLessEqual(len(line), 120)
                    self.assertTrue(all(" " <= sign <= "~" for sign in line))
        self.every(ast.FunctionDef, lambda node, tree: node.end_lineno - node.lineno < 40)

    def test_words(self):
        for path in PATHS:
            self.assertIsNone(NEVER_WORDS.search(path.read_text(encoding="utf-8")), path.name)

    def test_imports(self):
        self.every(ast.ImportFrom, lambda node, tree: node in tree.body and node.level == 0)
        needs = {stem: set() for stem in self.trees}
        for stem, node in self.nodes(ast.ImportFrom):
            package, _, module = node.module.partition(".")
            self.assertEqual(package, "unnamedlives", stem)
            needs[stem].add(module)
            defined = set(top_names(self.trees[module])) - imported_names(self.trees[module])
            for name in node.names:
                self.assertIsNone(name.asname, stem)
                self.assertIn(name.name, defined, stem)
                self.assertTrue(is_used(self.trees[stem], name.name), (stem, name.name))
        while needs:
            free = [stem for stem in needs if not needs[stem] & set(needs)]
            self.assertTrue(free, f"import from each other: {sorted(needs)}")
            for stem in free:
                del needs[stem]

    def test_module_level(self):
        for stem, tree in self.trees.items():
            names = list(top_names(tree))
            self.assertEqual(sorted(names), sorted(set(names)), stem)
            self.assertFalse(set(names) & BUILT_IN, stem)
            for at, node in enumerate(tree.body):
                if isinstance(node, ast.Assign):
                    self.assertEqual((len(node.targets), is_plain(node.value)), (1, True), stem)
                elif isinstance(node, ast.Expr):
                    self.assertEqual((at, ast.get_docstring(tree) is not None), (0, True), stem)
                else:
                    self.assertIsInstance(node, (ast.FunctionDef, ast.ClassDef, ast.ImportFrom), stem)

    def test_statements(self):
        self.every(ast.stmt, lambda node, tree: isinstance(node, STATEMENTS))
        self.every(ast.Raise, lambda node, tree: node.exc is None or isinstance(node.exc, ast.Call))
        self.every(NOT_USED, lambda node, tree: False)

    def test_classes(self):
        self.every(ast.ClassDef, lambda node, tree: node in tree.body and not node.decorator_list + node.keywords)
        self.every(ast.ClassDef, lambda node, tree: all(is_member(row, at) for at, row in enumerate(node.body)))
        self.every(ast.ClassDef, lambda node, tree: len(set(member_names(node))) == len(list(member_names(node))))

    def test_attributes_are_not_called_like_methods(self):
        members = {name for _, owner in self.nodes(ast.ClassDef) for name in member_names(owner)}
        self.every(ast.Attribute, lambda node, tree: isinstance(node.ctx, ast.Load) or node.attr not in members)

    def test_functions(self):
        decorators = ("property", "staticmethod", "classmethod")
        self.every(ast.FunctionDef, lambda node, tree: all(each.id in decorators for each in node.decorator_list))
        self.every(ast.FunctionDef, lambda node, tree: has_plain_default_values(node))
        taken = BUILT_IN | NEVER
        self.every(ast.FunctionDef, lambda node, tree: not set(bound_names(node)) & taken)
        self.every(ast.FunctionDef, lambda node, tree: not set(bound_names(node)) & set(top_names(tree)))

    def test_loops_do_not_change_what_they_go_over(self):
        wrong = [f"{stem}.py:{line}" for stem, node in self.nodes(ast.FunctionDef) for line in changing_loops(node)]
        self.assertEqual(wrong, [])

    def test_changing_loops_are_found(self):
        for rows, lines in [
            ("for x in xs:\n  xs.append(x)", [2]),
            ("ys = xs\nfor x in xs:\n  ys.append(x)", [3]),
            ("while xs:\n  ys = []\n  for x in xs:\n    ys.append(x)\n  xs = ys", [4]),
            ("ys, zs = xs, 1\nfor k, x in enumerate(ys):\n  xs[k] = x", [3]),
            ("ys = xs if xs else []\nfor x in ys:\n  del xs[x]", [3]),
            ("for k, x in box.rows.items():\n  box.rows.pop(k)", [2]),
            ("for x in xs or ys:\n  ys += [x]", [2]),
            ("ys = box.rows\nzs = ys\nfor x in reversed(zs):\n  box.rows.clear()", [4]),
            ("zs = [xs.pop() for x in xs]", [2]),
            ("for x in list(xs):\n  xs.append(x)", []),
            ("ys = list(xs)\nfor x in xs:\n  ys.append(x)", []),
            ("ys = []\nfor x in xs:\n  ys.append(x)", []),
            ("ys = xs\nfor x in ys:\n  total += x", []),
        ]:
            source = "def f():\n" + "".join(f"  {row}\n" for row in rows.split("\n"))
            self.assertEqual(list(changing_loops(ast.parse(source).body[0])), lines, rows)

    def test_names(self):
        self.every(ast.Name, lambda node, tree: re.fullmatch("_?[A-Za-z][A-Za-z0-9_]*|_", node.id))
        self.every(ast.Name, lambda node, tree: node.id != "_" or isinstance(node.ctx, ast.Store))
        self.every(ast.Name, lambda node, tree: node.id in BUILTINS or node.id not in BUILT_IN)
        self.every(ast.Attribute, lambda node, tree: re.fullmatch("_?[A-Za-z][A-Za-z0-9_]*|__init__", node.attr))
        allowed = METHODS | {"__init__"}
        self.every(ast.Attribute, lambda node, tree: node.attr in allowed or node.attr not in BUILTIN_ATTRIBUTES)
        self.every(ast.Attribute, lambda node, tree: node.attr not in NEVER)

    def test_values(self):
        self.every(ast.Constant, lambda node, tree: not isinstance(node.value, (float, complex, bytes)))
        for _, node in self.nodes(ast.Constant):
            if isinstance(node.value, str):
                self.assertNotRegex(node.value, r"[^ -~\n]|%|^__.*__$|\._$")
        self.every(ast.Compare, is_identity_allowed)


if __name__ == "__main__":
    unittest.main()
