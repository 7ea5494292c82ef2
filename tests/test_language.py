"""The form of the package's files: the rules of LANGUAGE.md that can be seen in one file's tree."""

import ast
import builtins
import pathlib
import re
import unittest

ROOT = pathlib.Path(__file__).resolve().parent.parent / "papersonpapers"
FILES = sorted(path for path in ROOT.rglob("*") if "__pycache__" not in path.parts)

NODES = """Module FunctionDef ClassDef Return Assign AugAssign For While If Raise Try Expr Pass Break Continue
ImportFrom alias arguments arg BoolOp And Or BinOp Add Sub Mult FloorDiv Mod Pow BitAnd BitOr BitXor LShift RShift
UnaryOp Not USub Invert Lambda IfExp Dict ListComp comprehension Compare Eq NotEq Lt LtE Gt GtE Is IsNot In NotIn
Call Attribute Subscript Slice Name List Tuple Load Store Constant ExceptHandler JoinedStr FormattedValue
keyword""".split()
OWN_NAMES = """len range enumerate zip min max sum abs sorted reversed int str bool list tuple dict set frozenset
isinstance ord repr any all divmod Exception ValueError TypeError KeyError IndexError LookupError ZeroDivisionError
ArithmeticError OverflowError RuntimeError NotImplementedError AttributeError StopIteration""".split()
METHODS = """append clear copy count endswith extend find get index insert isalnum isalpha isdigit islower isspace
isupper items join keys ljust lower lstrip partition pop remove replace reverse rfind rjust rpartition rsplit rstrip
setdefault split splitlines startswith strip update upper values zfill bit_length""".split()
WORDS = """type typing typing_extensions enum Enum IntEnum StrEnum Flag IntFlag Generic Protocol ABC ABCMeta namedtuple
NamedTuple TypedDict TYPE_CHECKING abstractmethod""".split()
NOT_USED = """register mro elements open input version_info with_traceback add_note attrgetter breakpoint builtins
compile copyright credits delattr dir eval exec exit gc getattr globals hasattr help id importlib license locals
methodcaller os quit setattr super vars sys format format_map""".split()


def trees():
    return [(path, ast.parse(path.read_text(encoding="utf-8"))) for path in FILES]


def nodes(kinds):
    return [(path, node) for path, tree in trees() for node in ast.walk(tree) if isinstance(node, kinds)]


def bound_names(tree):
    names = []
    for node in ast.walk(tree):
        if isinstance(node, (ast.FunctionDef, ast.ClassDef)):
            names.append(node.name)
        if isinstance(node, ast.arg):
            names.append(node.arg)
        if isinstance(node, ast.Name) and isinstance(node.ctx, ast.Store):
            names.append(node.id)
    return names


def is_plain_value(node):
    try:
        ast.literal_eval(node)
    except ValueError:
        return False
    return True


class Language(unittest.TestCase):
    def test_files(self):
        self.assertIn(ROOT / "house.py", FILES)
        for path in FILES:
            self.assertRegex(path.name, r"^([a-z][a-z0-9_]*|__init__)\.py$")
            self.assertNotIn(path.stem, dir(builtins) + WORDS + ["test", "tests", "testing", "site", "conftest"])

    def test_signs_and_sizes(self):
        for path in FILES:
            text = path.read_text(encoding="utf-8")
            self.assertRegex(text, r"^[ -~\n]*$", path)
            self.assertLessEqual(len(text.splitlines()), 400, path)
            self.assertLessEqual(max(len(line) for line in text.splitlines()), 120, path)

    def test_words(self):
        for path in FILES:
            text = path.read_text(encoding="utf-8")
            for word in re.findall(r"\w+", text):
                self.assertNotIn(word, WORDS, path)
            for part in ("dataclass", "overload", "contextmanager"):
                self.assertNotIn(part, text, path)

    def test_kinds_of_steps(self):
        for path, node in nodes(ast.AST):
            self.assertIn(node.__class__.__name__, NODES, (path, getattr(node, "lineno", 0)))
        for path, node in nodes(ast.Expr):
            self.assertIsInstance(node.value, (ast.Call, ast.Constant), path)
        for path, node in nodes(ast.Assign):
            self.assertEqual(len(node.targets), 1, path)
        for path, node in nodes((ast.For, ast.While)):
            self.assertEqual(node.orelse, [], path)
        for path, node in nodes(ast.ListComp):
            self.assertEqual(len(node.generators), 1, path)
            self.assertLessEqual(len(node.generators[0].ifs), 1, path)

    def test_functions_and_classes(self):
        for path, node in nodes(ast.FunctionDef):
            self.assertLessEqual(node.end_lineno - node.lineno + 1, 40, (path, node.name))
            self.assertEqual(node.decorator_list, [], path)
            self.assertIsNone(node.args.vararg or node.args.kwarg or node.returns, path)
            self.assertEqual(node.args.kwonlyargs, [], path)
        for path, node in nodes(ast.ClassDef):
            self.assertEqual((node.decorator_list, node.keywords), ([], []), path)
            self.assertTrue(all(isinstance(part, ast.FunctionDef) for part in node.body), path)

    def test_imports(self):
        defined = {path.stem: [n for n in bound_names(tree)] for path, tree in trees()}
        for path, node in nodes(ast.ImportFrom):
            self.assertEqual(node.level, 0, path)
            package, _, module = node.module.partition(".")
            self.assertEqual(package, "papersonpapers", path)
            for alias in node.names:
                self.assertIn(alias.name, defined[module], path)
                self.assertIsNone(alias.asname, path)

    def test_no_two_files_draw_from_one_another(self):
        drawn = {path.stem: set() for path in FILES}
        for path, node in nodes(ast.ImportFrom):
            drawn[path.stem].add(node.module.partition(".")[2])
        while drawn:
            free = [name for name in drawn if not drawn[name] & set(drawn)]
            self.assertTrue(free, drawn)
            for name in free:
                del drawn[name]

    def test_the_top_of_a_module(self):
        for path, tree in trees():
            self.assertTrue(ast.get_docstring(tree), path)
            for node in tree.body[1:]:
                self.assertIsInstance(node, (ast.ImportFrom, ast.FunctionDef, ast.ClassDef, ast.Assign), path)
                if isinstance(node, ast.Assign):
                    self.assertTrue(is_plain_value(node.value), (path, node.lineno))

    def test_names(self):
        for path, tree in trees():
            drawn = [alias.name for node in ast.walk(tree) if isinstance(node, ast.ImportFrom) for alias in node.names]
            own = bound_names(tree)
            for name in own:
                if name != "__init__":
                    self.assertRegex(name, r"^[A-Za-z][A-Za-z0-9_]*$", path)
                    self.assertNotIn(name, dir(builtins) + NOT_USED + drawn, path)
            for node in ast.walk(tree):
                if isinstance(node, ast.Name):
                    self.assertIn(node.id, own + drawn + OWN_NAMES, path)

    def test_methods(self):
        for path, node in nodes(ast.Call):
            if isinstance(node.func, ast.Attribute):
                self.assertIn(node.func.attr, METHODS, path)
        kept = [dir(kind) for kind in (str, int, list, dict, set, bytes)]
        for path, node in nodes(ast.Attribute):
            self.assertNotIn(node.attr, NOT_USED, path)
            if isinstance(node.ctx, ast.Store):
                self.assertFalse(any(node.attr in names for names in kept), (path, node.attr))

    def test_what_a_loop_walks_is_not_changed_in_it(self):
        for path, loop in nodes(ast.For):
            walked = ast.unparse(loop.iter)
            for node in ast.walk(ast.Module(body=loop.body, type_ignores=[])):
                if isinstance(node, ast.Call) and isinstance(node.func, ast.Attribute):
                    self.assertNotEqual(ast.unparse(node.func.value), walked, (path, loop.lineno))

    def test_sets_stand_straight_within_sorted_or_len(self):
        for path, tree in trees():
            calls = [node for node in ast.walk(tree) if isinstance(node, ast.Call) and isinstance(node.func, ast.Name)]
            fitting = [node.args[0] for node in calls if node.func.id in ("sorted", "len") and not node.keywords]
            for node in calls:
                if node.func.id in ("set", "frozenset"):
                    self.assertIn(node, fitting, (path, node.lineno))

    def test_what_is_walked_at_once_is_not_kept(self):
        for path, tree in trees():
            walked = [node.iter for node in ast.walk(tree) if isinstance(node, (ast.For, ast.comprehension))]
            for node in ast.walk(tree):
                if isinstance(node, ast.Call):
                    name = node.func.id if isinstance(node.func, ast.Name) else node.func.attr
                    if name in ("zip", "enumerate", "reversed", "range", "items", "keys", "values"):
                        self.assertIn(node, walked, (path, node.lineno))

    def test_is_stands_beside_none_true_and_false_alone(self):
        for path, node in nodes(ast.Compare):
            for sign, right in zip(node.ops, node.comparators):
                if isinstance(sign, (ast.Is, ast.IsNot)):
                    self.assertIn(ast.unparse(right), ("None", "True", "False"), path)


if __name__ == "__main__":
    unittest.main()
