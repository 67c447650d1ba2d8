"""The files of the package stay within the subset of Python in which the program is written."""

import ast
import builtins
import io
import pathlib
import re
import tokenize
import unittest

FOLDER = pathlib.Path(__file__).resolve().parent.parent / "cornerplans"
LIBRARY = {
    "heapq": {"heappush", "heappop", "heapify", "heapreplace", "heappushpop"},
    "math": {"gcd", "lcm", "isqrt", "comb", "perm", "factorial"},
}
BUILTINS = set(
    "len range enumerate zip min max sum abs sorted reversed int str bool bytes list tuple dict set frozenset "
    "isinstance ord repr any all divmod iter next map super property staticmethod classmethod Exception ValueError "
    "TypeError KeyError IndexError LookupError ZeroDivisionError ArithmeticError OverflowError RuntimeError "
    "NotImplementedError AttributeError StopIteration NotImplemented".split()
)
METHODS = set(
    "append clear copy count endswith extend find get index insert isalnum isalpha isdigit islower isspace isupper "
    "items join keys ljust lower lstrip partition pop remove replace reverse rfind rjust rpartition rsplit rstrip "
    "setdefault split splitlines startswith strip update upper values zfill bit_length isascii isdecimal add discard "
    "removeprefix removesuffix rindex".split()
)
DOUBLE = set(
    "__init__ __eq__ __repr__ __str__ __len__ __enter__ __exit__ __call__ __iter__ __lt__ __le__ __gt__ __ge__ __ne__ "
    "__add__ __sub__ __mul__ __floordiv__ __mod__ __pow__ __and__ __or__ __xor__ __lshift__ __rshift__ __iadd__ "
    "__neg__ __pos__ __invert__ __abs__ __bool__ __contains__ __getitem__ __setitem__".split()
)
BARRED_NAMES = set(
    "register mro elements open input law version_info with_traceback add_note attrgetter breakpoint builtins compile "
    "copyright credits delattr dir eval exec exit gc getattr globals hasattr help id importlib license locals "
    "methodcaller os quit setattr type vars sys format format_map args".split()
)
BARRED_WORDS = re.compile(
    r"\b(typing|typing_extensions|enum|Enum|IntEnum|StrEnum|Flag|IntFlag|Generic|Protocol|ABC|ABCMeta|namedtuple|"
    r"NamedTuple|TypedDict|TYPE_CHECKING|abstractmethod)\b|dataclass|overload|contextmanager|_wall|_WallAttr"
)
STATEMENTS = (
    ast.Assign, ast.AugAssign, ast.AnnAssign, ast.If, ast.While, ast.For, ast.Return, ast.Break, ast.Continue,
    ast.Pass, ast.Raise, ast.Assert, ast.Delete, ast.Nonlocal, ast.Match, ast.With, ast.Try, ast.Expr,
    ast.FunctionDef, ast.ClassDef, ast.ImportFrom,
)
AT_THE_TOP = (ast.Assign, ast.AnnAssign, ast.Expr, ast.FunctionDef, ast.ClassDef, ast.ImportFrom)
TAKE_LISTS = {"any", "all", "min", "max", "sum", "sorted"}
CATCHABLE = {"KeyError", "ZeroDivisionError", "StopIteration", "ValueError", "LookupError", "IndexError"}


def files():
    return sorted(FOLDER.glob("**/*.py"))


def trees():
    return [(path, ast.parse(path.read_text())) for path in files()]


def nodes(kind):
    """All nodes of a kind, with the place at which each stands."""
    for path, tree in trees():
        for node in ast.walk(tree):
            if isinstance(node, kind):
                yield node, f"{path.name}:{getattr(node, 'lineno', 0)}"


def own_names():
    """The names of all functions, methods and classes of the package."""
    return {node.name for node, _ in nodes((ast.FunctionDef, ast.ClassDef))}


class Files(unittest.TestCase):
    def test_folder(self):
        for path in FOLDER.glob("**/*"):
            if "__pycache__" not in path.parts:
                self.assertRegex(path.name, r"\A([a-z][a-z0-9_]*|__init__)\.py\Z")

    def test_characters_and_sizes(self):
        for path in files():
            text = path.read_text()
            self.assertRegex(text, r"\A[ -~\n]*\Z")
            self.assertLessEqual(len(text.splitlines()), 399)
            self.assertLessEqual(max([len(line) for line in text.splitlines()]), 120)
        for node, place in nodes(ast.FunctionDef):
            self.assertLessEqual(node.end_lineno - node.lineno + 1, 40, place)

    def test_barred_words(self):
        for path in files():
            self.assertNotRegex(path.read_text(), r"\(type\)|Meta|metaclass=")
            for token in tokenize.generate_tokens(io.StringIO(path.read_text()).readline):
                is_text = token.type == tokenize.STRING and token.string.startswith('"""')
                if token.type != tokenize.COMMENT and not is_text:
                    self.assertNotRegex(token.string, BARRED_WORDS, path.name)


class Names(unittest.TestCase):
    def test_plain_names(self):
        for node, place in nodes((ast.FunctionDef, ast.ClassDef, ast.arg, ast.Name, ast.Attribute)):
            name = {ast.arg: "arg", ast.Name: "id", ast.Attribute: "attr"}.get(type(node), "name")
            word = getattr(node, name)
            if word in ("__class__", "__name__"):
                self.assertRegex(ast.unparse(node), r"\A[a-z]+\.__class__(\.__name__)?\Z", place)
            elif word not in DOUBLE:
                self.assertRegex(word, r"\A(_|_?[A-Za-z][A-Za-z0-9_]*)\Z", place)
                self.assertNotIn(word, BARRED_NAMES, place)
            if isinstance(node, ast.Name) and isinstance(node.ctx, ast.Load):
                self.assertNotEqual(word, "_", place)

    def test_builtins(self):
        # Where an example was run ahead of this test, its last answer is kept there as _.
        names = set(vars(builtins)) - {"_"}
        for node, place in nodes(ast.Name):
            if node.id in names:
                self.assertIn(node.id, BUILTINS, place)
                self.assertIsInstance(node.ctx, ast.Load, place)
        for node, place in nodes((ast.FunctionDef, ast.ClassDef)):
            self.assertNotIn(node.name, names, place)
        for node, place in nodes(ast.arg):
            self.assertNotIn(node.arg, names, place)

    def test_locals_do_not_hide_imports_and_classes(self):
        for path, tree in trees():
            bound = [part.name for part in tree.body if isinstance(part, ast.ClassDef)]
            bound += [each.name for part in tree.body if isinstance(part, ast.ImportFrom) for each in part.names]
            self.assertEqual(len(bound), len(set(bound)))
            for node in ast.walk(tree):
                if isinstance(node, ast.arg):
                    self.assertNotIn(node.arg, bound, path.name)
                if isinstance(node, ast.Name) and not isinstance(node.ctx, ast.Load):
                    self.assertNotIn(node.id, bound, path.name)

    def test_methods_that_are_called(self):
        known = METHODS | own_names()
        for node, place in nodes(ast.Call):
            if isinstance(node.func, ast.Attribute) and not node.func.attr.startswith("__"):
                self.assertIn(node.func.attr, known, place)


class Statements(unittest.TestCase):
    def test_imports(self):
        for node, place in nodes((ast.Import, ast.ImportFrom)):
            self.assertIsInstance(node, ast.ImportFrom, place)
            self.assertEqual((node.level, node.col_offset), (0, 0), place)
            for each in node.names:
                self.assertIsNone(each.asname, place)
                if not node.module.startswith("cornerplans."):
                    self.assertIn(each.name, LIBRARY.get(node.module, ()), place)

    def test_kinds(self):
        for node, place in nodes(ast.stmt):
            self.assertIsInstance(node, STATEMENTS, place)
        for path, tree in trees():
            for part in tree.body:
                self.assertIsInstance(part, AT_THE_TOP, path.name)
                if isinstance(part, ast.Expr):
                    self.assertIsInstance(part.value, ast.Constant, path.name)

    def test_classes_and_decorators(self):
        for node, place in nodes(ast.FunctionDef):
            for each in node.decorator_list:
                self.assertRegex(ast.unparse(each), r"\A(property|staticmethod|classmethod|\w+\.setter)\Z", place)
            if node.name.startswith("__"):
                self.assertIn(node.name, DOUBLE, place)
        for node, place in nodes(ast.ClassDef):
            self.assertEqual((node.decorator_list, node.keywords), ([], []), place)
            methods = [part.name for part in node.body if isinstance(part, ast.FunctionDef)]
            if "__getitem__" in methods:
                self.assertIn("__iter__", methods, place)

    def test_raise_and_except(self):
        for node, place in nodes(ast.Raise):
            if node.exc is not None:
                self.assertRegex(ast.unparse(node.exc), r"\A[A-Z]\w*\(", place)
        for node, place in nodes(ast.ExceptHandler):
            self.assertIsNotNone(node.type, place)
            for name in re.findall(r"\w+", ast.unparse(node.type)):
                if name in vars(builtins):
                    self.assertIn(name, CATCHABLE, place)


class Expressions(unittest.TestCase):
    def test_kinds(self):
        barred = (ast.Await, ast.AsyncFor, ast.AsyncWith, ast.AsyncFunctionDef, ast.Global, ast.Div, ast.MatMult)
        for _, place in nodes(barred):
            self.fail(place)
        for node, place in nodes(ast.Constant):
            self.assertNotIsInstance(node.value, (float, complex), place)
            if isinstance(node.value, str):
                self.assertNotIn("%", node.value, place)
                self.assertNotRegex(node.value, r"\A__.*__\Z|\._{1,2}\Z", place)
        for node, place in nodes(ast.BinOp):
            if isinstance(node.op, ast.Pow) and isinstance(node.left, ast.Constant):
                self.assertIsInstance(node.right, ast.Constant, place)

    def test_is(self):
        for node, place in nodes(ast.Compare):
            for sign, other in zip(node.ops, node.comparators):
                if isinstance(sign, (ast.Is, ast.IsNot)):
                    self.assertIn(ast.unparse(other), ("None", "True", "False", "self"), place)

    def test_lists_rather_than_generators(self):
        for node, place in nodes(ast.Call):
            if isinstance(node.func, ast.Name) and node.func.id in TAKE_LISTS:
                for each in node.args:
                    self.assertNotIsInstance(each, ast.GeneratorExp, place)

    def test_sets_are_not_kept_on_objects(self):
        for node, place in nodes(ast.Assign):
            if any(not isinstance(target, ast.Name) for target in node.targets):
                self.assertNotRegex(ast.unparse(node.value), r"\A(set\(|\{[^:}]+\}\Z)", place)

    def test_no_sorting_in_place(self):
        for node, place in nodes(ast.Attribute):
            self.assertNotEqual(node.attr, "sort", place)


if __name__ == "__main__":
    unittest.main()
