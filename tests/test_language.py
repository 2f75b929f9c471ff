"""Holds the package to those rules of ../shared/LANGUAGE.md that can be read off the files."""

import ast
import builtins
import pathlib
import re
import unittest

PACKAGE = pathlib.Path(__file__).resolve().parent.parent / "ownshelf"
FILES = sorted(PACKAGE.glob("*.py"))

OWN_NAMES = set("""
    len range enumerate zip min max sum abs sorted reversed int str bool list tuple dict set frozenset isinstance
    ord repr any all divmod Exception ValueError TypeError KeyError IndexError LookupError ZeroDivisionError
    ArithmeticError OverflowError RuntimeError NotImplementedError AttributeError StopIteration
""".split())
OWN_METHODS = {"__init__", "__eq__", "__repr__", "__str__", "__len__"}
OUT_ANYWHERE = set("register mro elements open input version_info with_traceback add_note format format_map".split())
OUT_WORDS = set("""
    type typing typing_extensions enum Enum IntEnum StrEnum Flag IntFlag Generic Protocol ABC ABCMeta namedtuple
    NamedTuple TypedDict TYPE_CHECKING abstractmethod
""".split())
METHODS_OF_VALUES = set("""
    append clear copy count endswith extend find get index insert isalnum isalpha isdigit islower isspace isupper
    items join keys ljust lower lstrip partition pop remove replace reverse rfind rjust rpartition rsplit rstrip
    setdefault split splitlines startswith strip update upper values zfill bit_length
""".split())
KEYWORDS = {
    "sorted": {"key", "reverse"}, "min": {"key", "default"}, "max": {"key", "default"}, "sum": {"start"},
    "enumerate": {"start"}, "zip": {"strict"},
}
WALKED_AT_ONCE = {"zip", "enumerate", "reversed", "range", "items", "keys", "values"}
WALKERS = {"list", "tuple", "dict", "sorted", "sum", "any", "all", "enumerate", "zip", "min", "max", "join"}
STATEMENTS = (
    ast.FunctionDef, ast.ClassDef, ast.ImportFrom, ast.Assign, ast.AugAssign, ast.If, ast.While, ast.For, ast.Return,
    ast.Break, ast.Continue, ast.Pass, ast.Raise, ast.Try, ast.Expr,
)
EXPRESSIONS = (
    ast.Constant, ast.Name, ast.List, ast.Tuple, ast.Dict, ast.Set, ast.BinOp, ast.UnaryOp, ast.BoolOp, ast.Compare,
    ast.IfExp, ast.Call, ast.Attribute, ast.Subscript, ast.Slice, ast.ListComp, ast.JoinedStr, ast.FormattedValue,
    ast.Lambda,
)
VALUES_OF_OBJECTS = set("count index title find get join lower upper split strip copy add".split())
OUT_AS_NAMES = set("""
    attrgetter breakpoint builtins compile copyright credits delattr dir eval exec exit gc getattr globals hasattr
    help id importlib license locals methodcaller os quit setattr super type vars sys
""".split())
LITERALS = (ast.Constant, ast.UnaryOp, ast.USub, ast.List, ast.Tuple, ast.Dict, ast.Name, ast.Load)


def trees():
    return [(path.name, ast.parse(path.read_text(encoding="utf-8"))) for path in FILES]


def nodes_of(kinds):
    return [(name, node) for name, tree in trees() for node in ast.walk(tree) if isinstance(node, kinds)]


def is_docstring(tree, node):
    return node is tree.body[0] and isinstance(node, ast.Expr) and isinstance(node.value, ast.Constant)


def names_in(node):
    if isinstance(node, ast.Name):
        return [node.id]
    if isinstance(node, ast.Attribute):
        return [node.attr]
    if isinstance(node, (ast.FunctionDef, ast.ClassDef)):
        return [node.name]
    if isinstance(node, ast.arg):
        return [node.arg]
    if isinstance(node, ast.alias):
        return [node.name]
    return []


def called_name(node):
    """The name that is called, of a function or of a method; None where the node is no such call."""
    if not isinstance(node, ast.Call):
        return None
    if isinstance(node.func, ast.Attribute):
        return node.func.attr
    return node.func.id if isinstance(node.func, ast.Name) else None


def is_read(node):
    return isinstance(node.ctx, ast.Load)


def bound_at_the_top(tree):
    """The names that a file itself defines: functions, classes and plain values, not what it imports."""
    found = {node.name for node in tree.body if isinstance(node, (ast.FunctionDef, ast.ClassDef))}
    return found | {node.targets[0].id for node in tree.body if isinstance(node, ast.Assign)}


class Language(unittest.TestCase):
    def none_of(self, wrong):
        self.assertEqual([f"{name}:{getattr(node, 'lineno', 0)}" for name, node in wrong], [])

    def test_files(self):
        self.assertIn(PACKAGE / "__init__.py", FILES)
        for path in PACKAGE.iterdir():
            if path.name != "__pycache__":
                self.assertRegex(path.name, r"\A([a-z][a-z0-9_]*|__init__|__main__)\.py\Z")

    def test_signs_and_sizes(self):
        for path in FILES:
            text = path.read_bytes().decode("ascii")
            lines = text.split("\n")
            self.assertRegex(text, r"\A[ -~\n]*\Z", path.name)
            self.assertLessEqual(len(lines), 400, path.name)
            self.assertLessEqual(max(len(line) for line in lines), 120, path.name)
        self.none_of([
            pair for pair in nodes_of(ast.FunctionDef) if pair[1].end_lineno - pair[1].lineno + 1 > 40
        ])

    def test_words_that_stand_nowhere(self):
        for path in FILES:
            text = path.read_text()
            self.assertEqual(sorted(set(re.findall(r"\w+", text)) & OUT_WORDS), [], path.name)
            self.assertNotRegex(text, "dataclass|overload|contextmanager", path.name)

    def test_statements_and_expressions(self):
        self.none_of([pair for pair in nodes_of(ast.stmt) if not isinstance(pair[1], STATEMENTS)])
        self.none_of([pair for pair in nodes_of(ast.expr) if not isinstance(pair[1], EXPRESSIONS)])
        self.none_of([pair for pair in nodes_of((ast.While, ast.For)) if pair[1].orelse])
        self.none_of([pair for pair in nodes_of(ast.Assign) if len(pair[1].targets) != 1])
        self.none_of([pair for pair in nodes_of((ast.Div, ast.MatMult))])
        self.none_of([
            (name, node) for name, tree in trees() for node in ast.walk(tree)
            if isinstance(node, ast.Expr) and not isinstance(node.value, ast.Call) and not is_docstring(tree, node)
        ])
        self.none_of([
            pair for pair in nodes_of(ast.Constant)
            if not (pair[1].value is None or isinstance(pair[1].value, (int, str)))
            or isinstance(pair[1].value, str) and "%" in pair[1].value
        ])

    def test_the_top_of_a_file(self):
        for name, tree in trees():
            bound = []
            for node in tree.body:
                if isinstance(node, ast.Assign):
                    self.assertTrue(all(isinstance(part, LITERALS) for part in ast.walk(node.value)), name)
                    bound += [target.id for target in node.targets]
                elif isinstance(node, ast.ImportFrom):
                    self.assertEqual((node.level, node.module.split(".")[0]), (0, "ownshelf"), name)
                    self.assertEqual([alias.asname for alias in node.names], [None] * len(node.names), name)
                    bound += [alias.name for alias in node.names]
                elif isinstance(node, (ast.FunctionDef, ast.ClassDef)):
                    bound.append(node.name)
                else:
                    self.assertTrue(is_docstring(tree, node), name)
            self.assertEqual(len(bound), len(set(bound)), name)
            inner = [node for node in ast.walk(tree) if isinstance(node, (ast.ClassDef, ast.ImportFrom))]
            self.assertTrue(all(node in tree.body for node in inner), name)
            self.assert_locals_have_names_of_their_own(name, tree)

    def assert_locals_have_names_of_their_own(self, name, tree):
        taken = [alias.name for node in tree.body if isinstance(node, ast.ImportFrom) for alias in node.names]
        taken += [node.name for node in tree.body if isinstance(node, ast.ClassDef)] + dir(builtins)
        for node in ast.walk(tree):
            local = node.arg if isinstance(node, ast.arg) else None
            if isinstance(node, ast.Name) and isinstance(node.ctx, ast.Store):
                local = node.id
            self.assertNotIn(local, taken, name)

    def test_functions(self):
        for name, node in nodes_of((ast.FunctionDef, ast.Lambda)):
            self.assertFalse(node.args.vararg or node.args.kwarg or node.args.kwonlyargs or node.args.posonlyargs, name)
            self.assertFalse(getattr(node, "decorator_list", []) or getattr(node, "returns", None), name)
            self.assertTrue(all(isinstance(value, ast.Constant) for value in node.args.defaults), name)

    def test_classes(self):
        for name, node in nodes_of(ast.ClassDef):
            self.assertFalse(node.decorator_list or node.keywords or len(node.bases) > 1, name)
            self.assertTrue(all(isinstance(part, (ast.FunctionDef, ast.Pass)) for part in node.body), name)
            methods = [part.name for part in node.body if isinstance(part, ast.FunctionDef)]
            self.assertEqual(len(methods), len(set(methods)), name)
        methods = {part.name for name, node in nodes_of(ast.ClassDef) for part in node.body
                   if isinstance(part, ast.FunctionDef)}
        values = {node.attr for name, node in nodes_of(ast.Attribute) if isinstance(node.ctx, ast.Store)}
        self.assertEqual(methods & values, set())

    def test_names(self):
        out = set(dir(builtins)) - OWN_NAMES
        for path, node in nodes_of(ast.AST):
            for word in names_in(node):
                if word not in OWN_METHODS:
                    self.assertRegex(word, r"\A[A-Za-z][A-Za-z0-9_]*\Z", path)
                self.assertNotIn(word, OUT_ANYWHERE, path)
                if isinstance(node, ast.Name):
                    self.assertNotIn(word, out, path)

    def test_imports_are_from_the_defining_file_and_go_in_no_ring(self):
        files = {f"ownshelf.{name[:-3]}": tree for name, tree in trees()}
        drawn = {}
        for module, tree in files.items():
            rows = [node for node in tree.body if isinstance(node, ast.ImportFrom)]
            for row in rows:
                wanted = {alias.name for alias in row.names}
                self.assertLessEqual(wanted, bound_at_the_top(files[row.module]), module)
            drawn[module] = {row.module for row in rows}
        while drawn:
            free = [module for module in drawn if not drawn[module] & set(drawn)]
            self.assertNotEqual(free, [], f"these draw from one another: {sorted(drawn)}")
            for module in free:
                drawn.pop(module)

    def test_methods_are_listed_or_own_and_called_where_they_stand(self):
        own = {part.name for name, node in nodes_of(ast.ClassDef) for part in node.body
               if isinstance(part, ast.FunctionDef)}
        for name, tree in trees():
            called = [node.func for node in ast.walk(tree) if isinstance(node, ast.Call)]
            for node in ast.walk(tree):
                if isinstance(node, ast.Attribute) and node in called:
                    self.assertIn(node.attr, own | METHODS_OF_VALUES, name)
                elif isinstance(node, ast.Attribute):
                    self.assertNotIn(node.attr, own, name)

    def test_keywords(self):
        for name, node in nodes_of(ast.Call):
            told = {keyword.arg for keyword in node.keywords}
            if told and (called_name(node) in OWN_NAMES or isinstance(node.func, ast.Attribute)):
                self.assertLessEqual(told, KEYWORDS.get(called_name(node), set()), name)

    def test_ranges_and_their_like_are_walked_on_the_spot(self):
        for name, tree in trees():
            walked = [node.iter for node in ast.walk(tree) if isinstance(node, (ast.For, ast.comprehension))]
            walked += [inner for node in ast.walk(tree) if called_name(node) in WALKERS for inner in node.args]
            for node in ast.walk(tree):
                if called_name(node) in WALKED_AT_ONCE:
                    self.assertIn(node, walked, name)

    def test_handlers_name_no_error_that_is_too_wide(self):
        for name, node in nodes_of(ast.Try):
            self.assertFalse(node.finalbody, name)
            for handler in node.handlers:
                self.assertIsNotNone(handler.type, name)
                caught = {word for part in ast.walk(handler.type) for word in names_in(part)}
                self.assertEqual(caught & {"Exception", "TypeError"}, set(), name)

    def test_is_stands_beside_none_and_truths_alone(self):
        for name, node in nodes_of(ast.Compare):
            sides = [node.left] + node.comparators
            for place, way in enumerate(node.ops):
                if isinstance(way, (ast.Is, ast.IsNot)):
                    near = sides[place:place + 2]
                    plain = [side for side in near if isinstance(side, ast.Constant)]
                    self.assertTrue(any(side.value in (None, True, False) for side in plain), name)

    def test_what_a_file_s_top_keeps_is_plain_and_only_read(self):
        for name, tree in trees():
            above, kept = [], []
            for node in tree.body:
                if isinstance(node, ast.FunctionDef):
                    above.append(node.name)
                if isinstance(node, ast.Assign):
                    inner = list(ast.walk(node.value))[1:]
                    self.assertFalse([part for part in inner if isinstance(part, (ast.List, ast.Dict, ast.Set))], name)
                    self.assertLessEqual({word for part in inner for word in names_in(part)}, set(above), name)
                    if isinstance(node.value, (ast.List, ast.Dict)):
                        kept.append(node.targets[0].id)
            self.assert_only_read(name, tree, kept)

    def assert_only_read(self, name, tree, kept):
        read = [node.value for node in ast.walk(tree) if isinstance(node, ast.Subscript) and is_read(node)]
        read += [side for node in ast.walk(tree) if isinstance(node, ast.Compare) for side in node.comparators]
        for node in ast.walk(tree):
            if isinstance(node, ast.Name) and node.id in kept and is_read(node):
                self.assertIn(node, read, name)

    def test_classes_are_called_or_named_where_they_may_be(self):
        classes = {node.name for name, node in nodes_of(ast.ClassDef)}
        for name, tree in trees():
            good = [node.func for node in ast.walk(tree) if isinstance(node, ast.Call)]
            good += [base for node in ast.walk(tree) if isinstance(node, ast.ClassDef) for base in node.bases]
            good += [node.type for node in ast.walk(tree) if isinstance(node, ast.ExceptHandler)]
            # A base's own making is called through its name.
            good += [node.value for node in ast.walk(tree) if isinstance(node, ast.Attribute) and node.attr == "__init__"]
            for node in ast.walk(tree):
                if isinstance(node, ast.Name) and node.id in classes:
                    self.assertIn(node, good, f"{name}:{node.lineno}")

    def test_raise_makes_its_error_on_the_spot(self):
        for name, node in nodes_of(ast.Raise):
            self.assertIsInstance(node.exc, ast.Call, name)
            self.assertIsNone(node.cause, name)

    def test_making_an_object_gives_nothing_back(self):
        for name, node in nodes_of(ast.FunctionDef):
            if node.name == "__init__":
                self.assertFalse([part for part in ast.walk(node) if isinstance(part, ast.Return)], name)

    def test_own_values_and_methods_have_free_names(self):
        taken = {word for value in ("", 0, [], {}, set(), b"", ()) for word in dir(value)} | {"args"}
        values = {node.attr for name, node in nodes_of(ast.Attribute) if isinstance(node.ctx, ast.Store)}
        methods = {part.name for name, node in nodes_of(ast.ClassDef) for part in node.body
                   if isinstance(part, ast.FunctionDef)}
        self.assertEqual(values & taken - VALUES_OF_OBJECTS, set())
        self.assertEqual(methods & taken - METHODS_OF_VALUES - OWN_METHODS - {"add", "discard"}, set())

    def test_names_that_are_not_used(self):
        for name, node in nodes_of((ast.Name, ast.arg, ast.FunctionDef, ast.ClassDef, ast.alias)):
            self.assertNotIn(names_in(node)[0], OUT_AS_NAMES, name)

    def test_no_sets_and_no_powers(self):
        self.none_of(nodes_of((ast.Set, ast.Pow)))
        self.none_of([pair for pair in nodes_of(ast.Call) if called_name(pair[1]) in ("set", "frozenset", "chr")])

    def test_texts_have_plain_escapes_alone(self):
        for path in FILES:
            self.assertNotRegex(path.read_text(), r"\\[^nt\\'\"]", path.name)


if __name__ == "__main__":
    unittest.main()
