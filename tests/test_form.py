"""The form of the package's files: the rules of the language part that can be seen at a glance."""

import ast
import builtins
import pathlib
import re
import unittest

PACKAGE = pathlib.Path(__file__).resolve().parent.parent / "nearplane"
FILES = sorted(path for path in PACKAGE.rglob("*") if "__pycache__" not in path.parts)

NODES = set("""
    Module ImportFrom alias FunctionDef ClassDef arguments arg Lambda Expr Assign AugAssign
    If While For Return Break Continue Pass Raise Try ExceptHandler
    Constant List Tuple Dict Set Name Attribute Subscript Slice Call keyword ListComp comprehension
    JoinedStr FormattedValue BinOp UnaryOp BoolOp Compare IfExp Load Store
    Add Sub Mult FloorDiv Mod Pow BitAnd BitOr BitXor LShift RShift Invert Not USub And Or
    Eq NotEq Lt LtE Gt GtE In NotIn Is IsNot
""".split())
OWN_OF_PYTHON = set("""
    len range enumerate zip min max sum abs sorted reversed int str bool list tuple dict set frozenset
    isinstance ord repr any all divmod ValueError TypeError KeyError IndexError LookupError Exception
    ZeroDivisionError ArithmeticError OverflowError RuntimeError NotImplementedError StopIteration
""".split())
WORDS = re.compile(
    r"\b(type|typing|typing_extensions|enum|Enum|IntEnum|StrEnum|Flag|IntFlag|Generic|Protocol|ABC|ABCMeta"
    r"|namedtuple|NamedTuple|TypedDict|TYPE_CHECKING|abstractmethod)\b|dataclass|overload|contextmanager"
)
NOT_USED = set("""
    register mro elements open input version_info with_traceback add_note format format_map
    f_back f_code f_globals f_locals f_builtins f_lasti f_lineno f_trace tb_next tb_frame tb_lasti tb_lineno
    co_names co_code co_consts gi_frame cr_frame
""".split())
VALUES_NOT_USED = set("""
    items keys values pop update append clear extend insert remove reverse setdefault sort args encode format
""".split())
VALUES_OF_PYTHON = {name for kind in (str, int, list, dict, set, bytes) for name in dir(kind)}
VALUES_ALLOWED = set("count index title find get join lower upper split strip copy add".split())
PLAIN_NAME = re.compile(r"\A[A-Za-z][A-Za-z0-9_]*\Z")
METHODS = {"__init__", "__eq__", "__repr__", "__str__", "__len__"}
METHODS_OF_PYTHON = set("""
    append clear copy count endswith extend find get index insert isalnum isalpha isdigit islower isspace isupper
    items join keys ljust lower lstrip partition pop remove replace reverse rfind rjust rpartition rsplit rstrip
    setdefault split splitlines startswith strip update upper values zfill bit_length
""".split())


def drawn(text):
    """Pairs of a file and a name that is drawn from it."""
    rows = [node for node in ast.parse(text).body if isinstance(node, ast.ImportFrom)]
    return [(node.module.split(".")[-1], part.asname or part.name) for node in rows for part in node.names]


def defined_names(text):
    """The names that a file's top defines: functions, classes and values."""
    body = ast.parse(text).body
    targets = [target for node in body if isinstance(node, ast.Assign) for target in node.targets]
    return list(bound_names(body + targets))


def local_names(text):
    """The names that the defs of a file bind: parameters and locals."""
    tops = [node for node in ast.parse(text).body if isinstance(node, (ast.FunctionDef, ast.ClassDef))]
    return list(bound_names(node for top in tops for node in ast.walk(top) if isinstance(node, (ast.arg, ast.Name))))


def bound_names(nodes):
    for node in nodes:
        if isinstance(node, (ast.FunctionDef, ast.ClassDef)):
            yield node.name
        elif isinstance(node, ast.arg):
            yield node.arg
        elif isinstance(node, ast.Name) and isinstance(node.ctx, ast.Store):
            yield node.id


def classes_of(nodes):
    return [node for node in nodes if isinstance(node, ast.ClassDef)]


def all_classes():
    return [one for path in FILES for one in classes_of(ast.walk(ast.parse(path.read_text(encoding="ascii"))))]


def methods_of(one):
    return [part.name for part in one.body if isinstance(part, ast.FunctionDef)]


def values_of(one):
    """The names of the values that a class's methods store."""
    return {node.attr for node in ast.walk(one) if isinstance(node, ast.Attribute) and isinstance(node.ctx, ast.Store)}


class Form(unittest.TestCase):
    def check_each(self, check):
        self.assertGreater(len(FILES), 1)
        for path in FILES:
            with self.subTest(path.name):
                text = path.read_text(encoding="ascii")
                check(text, list(ast.walk(ast.parse(text))))

    def test_nothing_but_plain_files(self):
        for path in FILES:
            self.assertRegex(path.name, r"\A([a-z][a-z0-9_]*|__init__|__main__)\.py\Z")

    def test_signs_words_and_sizes(self):
        def check(text, nodes):
            self.assertRegex(text, r"\A[ -~\n]*\Z")
            self.assertIsNone(WORDS.search(text))
            self.assertLessEqual(len(text.splitlines()), 400)
            self.assertLessEqual(max(len(line) for line in text.splitlines()), 120)
            for node in nodes:
                if isinstance(node, ast.FunctionDef):
                    self.assertLessEqual(node.end_lineno - node.lineno + 1, 40, node.name)
        self.check_each(check)

    def test_kinds_of_statements_and_expressions(self):
        def check(text, nodes):
            for node in nodes:
                self.assertIn(type(node).__name__, NODES, getattr(node, "lineno", None))
                if isinstance(node, ast.Constant):
                    self.assertIsInstance(node.value, (int, str, type(None)))
                if isinstance(node, ast.Assign):
                    self.assertEqual(len(node.targets), 1)
        self.check_each(check)

    def test_imports_are_the_packages_own(self):
        def check(text, nodes):
            for node in nodes:
                if isinstance(node, ast.ImportFrom):
                    self.assertEqual(node.level, 0)
                    self.assertTrue(node.module.startswith("nearplane."), node.module)
                    self.assertNotIn("*", [part.name for part in node.names])
        self.check_each(check)

    def test_what_is_drawn_from_a_file_is_defined_there(self):
        def check(text, nodes):
            for source, name in drawn(text):
                self.assertIn(name, defined_names((PACKAGE / f"{source}.py").read_text(encoding="ascii")))
        self.check_each(check)

    def test_no_two_files_draw_from_one_another(self):
        left = {path.stem: {source for source, _ in drawn(path.read_text(encoding="ascii"))} for path in FILES}
        while left:
            free = [name for name, sources in left.items() if not sources & set(left)]
            self.assertTrue(free, left)
            left = {name: sources for name, sources in left.items() if name not in free}

    def test_each_name_of_a_files_top_is_bound_once_and_not_again_within(self):
        def check(text, nodes):
            tops = defined_names(text) + [name for _, name in drawn(text)]
            self.assertEqual(len(tops), len(set(tops)))
            self.assertFalse(set(tops) & set(local_names(text)))
        self.check_each(check)

    def test_comprehensions_and_is(self):
        def check(text, nodes):
            for node in nodes:
                if isinstance(node, ast.ListComp):
                    self.assertEqual(len(node.generators), 1)
                    self.assertLessEqual(len(node.generators[0].ifs), 1)
                if isinstance(node, ast.Compare) and isinstance(node.ops[0], (ast.Is, ast.IsNot)):
                    self.assertIsInstance(node.comparators[0], ast.Constant)
        self.check_each(check)

    def test_methods_are_the_listed_ones_or_own(self):
        own = {name for one in all_classes() for name in methods_of(one)}

        def check(text, nodes):
            for node in nodes:
                if isinstance(node, ast.Call) and isinstance(node.func, ast.Attribute):
                    self.assertIn(node.func.attr, METHODS_OF_PYTHON | own, node.lineno)
        self.check_each(check)

    def test_no_method_is_handed_on(self):
        own = {name for one in all_classes() for name in methods_of(one)}

        def check(text, nodes):
            called = {id(node.func) for node in nodes if isinstance(node, ast.Call)}
            for node in nodes:
                if isinstance(node, ast.Attribute) and node.attr in own | METHODS_OF_PYTHON:
                    self.assertIn(id(node), called, node.lineno)
        self.check_each(check)

    def test_classes(self):
        for one in all_classes():
            with self.subTest(one.name):
                self.assertEqual([one.decorator_list, one.keywords], [[], []])
                self.assertLessEqual(len(one.bases), 1)
                self.assertTrue(all(isinstance(part, (ast.FunctionDef, ast.Pass)) for part in one.body))
                self.assertEqual(len(methods_of(one)), len(set(methods_of(one))))

    def test_no_name_is_a_method_in_one_class_and_a_value_in_another(self):
        methods = {name for one in all_classes() for name in methods_of(one)}
        values = {name for one in all_classes() for name in values_of(one)}
        self.assertFalse(methods & values)
        self.assertFalse(values & VALUES_NOT_USED)
        self.assertFalse(values & VALUES_OF_PYTHON - VALUES_ALLOWED)
        self.assertFalse(methods & VALUES_OF_PYTHON - METHODS_OF_PYTHON - METHODS - {"add", "discard"})

    def test_classes_stand_where_they_may(self):
        names = {one.name for one in all_classes()}

        def check(text, nodes):
            allowed = {id(node.func) for node in nodes if isinstance(node, ast.Call)}
            allowed |= {id(base) for one in classes_of(nodes) for base in one.bases}
            for node in nodes:
                if isinstance(node, ast.Name) and node.id in names:
                    self.assertIn(id(node), allowed, node.lineno)
        self.check_each(check)

    def test_values_of_a_files_top_hold_no_lists_or_dicts_and_are_only_read(self):
        def check(text, nodes):
            body = ast.parse(text).body
            kept = [node for node in body if isinstance(node, ast.Assign)]
            for node in kept:
                inner = list(ast.walk(node.value))[1:]
                self.assertFalse([part for part in inner if isinstance(part, (ast.List, ast.Dict, ast.Set, ast.Call))])
            large = {node.targets[0].id for node in kept if isinstance(node.value, (ast.List, ast.Dict))}
            indexed = [node for node in nodes if isinstance(node, ast.Subscript) and isinstance(node.ctx, ast.Load)]
            reads = {id(node.value) for node in indexed}
            reads |= {id(node.comparators[0]) for node in nodes if isinstance(node, ast.Compare)}
            for node in nodes:
                if isinstance(node, ast.Name) and node.id in large and isinstance(node.ctx, ast.Load):
                    self.assertIn(id(node), reads, node.lineno)
        self.check_each(check)

    def test_errors_are_raised_on_the_spot(self):
        def check(text, nodes):
            for node in nodes:
                if isinstance(node, ast.Raise):
                    self.assertIsInstance(node.exc, ast.Call)
                if isinstance(node, ast.ExceptHandler):
                    self.assertIsInstance(node.type, ast.Name)
                    self.assertNotIn(node.type.id, ("Exception", "TypeError"))
        self.check_each(check)

    def test_names_that_are_not_used(self):
        def check(text, nodes):
            for node in nodes:
                if isinstance(node, ast.Attribute):
                    self.assertNotIn(node.attr, NOT_USED)
                    self.assertRegex(node.attr, PLAIN_NAME)
            self.assertFalse(set(bound_names(nodes)) & NOT_USED)
        self.check_each(check)

    def test_names(self):
        def check(text, nodes):
            for name in bound_names(nodes):
                if name not in METHODS:
                    self.assertRegex(name, PLAIN_NAME)
                    self.assertFalse(hasattr(builtins, name), name)
            for node in nodes:
                if isinstance(node, ast.Name) and hasattr(builtins, node.id):
                    self.assertIn(node.id, OWN_OF_PYTHON)
        self.check_each(check)


if __name__ == "__main__":
    unittest.main()
