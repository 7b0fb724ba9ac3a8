"""The rules of the language subset that can be told by looking at the files of the package."""

import ast
import builtins
import pathlib
import re
import unittest

PACKAGE = pathlib.Path(__file__).resolve().parent.parent / "onlygiven"

BUILTINS = set(
    "len range enumerate zip min max sum abs sorted reversed int str bool bytes list tuple dict set frozenset "
    "isinstance ord repr any all divmod iter next map Exception ValueError TypeError KeyError IndexError LookupError "
    "ZeroDivisionError ArithmeticError OverflowError RuntimeError NotImplementedError AttributeError StopIteration "
    "NotImplemented super property staticmethod classmethod".split()
)

LIBRARY = {
    "heapq": {"heappush", "heappop", "heapify", "heapreplace", "heappushpop"},
    "math": {"gcd", "lcm", "isqrt", "comb", "perm", "factorial"},
    "itertools": {"product", "combinations", "permutations"},
    "__future__": {"annotations"},
}

METHODS = set(
    "append clear copy count endswith extend find get index insert isalnum isalpha isdigit islower isspace isupper "
    "items join keys ljust lower lstrip partition pop remove replace reverse rfind rjust rpartition rsplit rstrip "
    "setdefault split splitlines startswith strip update upper values zfill bit_length title capitalize swapcase "
    "casefold center expandtabs removeprefix removesuffix rindex isascii isdecimal isnumeric istitle isidentifier "
    "isprintable translate sort add discard encode decode hex from_bytes".split()
)

BARRED_NODES = (
    ast.Global, ast.AsyncFunctionDef, ast.AsyncFor, ast.AsyncWith, ast.Await, ast.Import, ast.Div, ast.MatMult,
)

BARRED_NAMES = set(
    "register mro elements open input law version_info with_traceback add_note attrgetter breakpoint compile "
    "copyright credits delattr dir eval exec exit gc getattr globals hasattr help id importlib license locals "
    "methodcaller os quit setattr type vars sys".split()
)

BARRED_WORDS = re.compile(
    r"\b(typing|typing_extensions|enum|Enum|IntEnum|StrEnum|Flag|IntFlag|Generic|Protocol|ABC|ABCMeta|namedtuple|"
    r"NamedTuple|TypedDict|TYPE_CHECKING|abstractmethod)\b|dataclass|overload|contextmanager|_wall|_WallAttr"
)

CAUGHT_BUILTINS = {"KeyError", "ZeroDivisionError", "StopIteration", "ValueError", "LookupError", "IndexError"}


def sources():
    return {path: path.read_text(encoding="utf-8") for path in sorted(PACKAGE.glob("*.py"))}


def trees():
    return {path: ast.parse(text) for path, text in sources().items()}


def nodes(kind):
    for path, tree in trees().items():
        for node in ast.walk(tree):
            if isinstance(node, kind):
                yield path, node


def defined(tree):
    """The names that a file binds at module level, without its imports."""
    names = []
    for node in tree.body:
        if isinstance(node, (ast.FunctionDef, ast.ClassDef)):
            names.append(node.name)
        elif isinstance(node, ast.Assign):
            names.extend(target.id for target in node.targets)
    return names


def imported(tree):
    return [(node.module, alias.name) for node in tree.body if isinstance(node, ast.ImportFrom) for alias in node.names]


class LanguageTest(unittest.TestCase):
    def test_files(self):
        self.assertTrue((PACKAGE / "__init__.py").is_file())
        for path in PACKAGE.iterdir():
            if path.name != "__pycache__":
                self.assertRegex(path.name, r"\A[a-z_][a-z0-9_]*\.py\Z")
                self.assertNotIn(path.stem, dir(builtins))
                self.assertNotRegex(path.stem, r"\A(law_.*|test.*|site|conftest)\Z")

    def test_characters_and_sizes(self):
        for path, text in sources().items():
            self.assertRegex(text, r"\A[\n -~]*\Z", path)
            rows = text.split("\n")
            self.assertLessEqual(len(rows), 400, path)
            self.assertLessEqual(max(len(row) for row in rows), 120, path)
            self.assertNotRegex(text, BARRED_WORDS, path)

    def test_function_sizes(self):
        for path, node in nodes(ast.FunctionDef):
            self.assertLessEqual(node.end_lineno - node.lineno + 1, 40, (path, node.name))

    def test_module_level(self):
        for path, tree in trees().items():
            names = defined(tree) + [name for _, name in imported(tree)]
            self.assertEqual(len(names), len(set(names)), path)
            for k, node in enumerate(tree.body):
                if k == 0 and isinstance(node, ast.Expr) and isinstance(node.value, ast.Constant):
                    continue
                self.assertIsInstance(node, (ast.ImportFrom, ast.FunctionDef, ast.ClassDef, ast.Assign), path)

    def test_imports(self):
        files = {f"onlygiven.{path.stem}": tree for path, tree in trees().items()}
        for path, tree in trees().items():
            for module, name in imported(tree):
                if module in LIBRARY:
                    self.assertIn(name, LIBRARY[module], path)
                else:
                    self.assertIn(name, defined(files[module]), path)

    def test_imports_go_one_way(self):
        files = {f"onlygiven.{path.stem}": tree for path, tree in trees().items()}
        open_files = dict.fromkeys(files)
        while open_files:
            free = [
                name for name in open_files
                if not any(module in open_files for module, _ in imported(files[name]))
            ]
            self.assertTrue(free, f"these import each other: {sorted(open_files)}")
            for name in free:
                del open_files[name]

    def test_nodes(self):
        for path, node in nodes(BARRED_NODES):
            self.fail(f"{path.name}:{getattr(node, 'lineno', '')} has {type(node).__name__}")
        for path, node in nodes(ast.Constant):
            self.assertNotIsInstance(node.value, (float, complex), path)
            if isinstance(node.value, str):
                self.assertNotIn(chr(37), node.value, path)

    def test_names(self):
        for path, tree in trees().items():
            own = set(defined(tree)) | {name for _, name in imported(tree)}
            for node in ast.walk(tree):
                if isinstance(node, ast.Name):
                    self.assertNotIn(node.id, BARRED_NAMES, path)
                    if node.id in dir(builtins) and node.id not in own:
                        self.assertIn(node.id, BUILTINS, path)
                        self.assertIsInstance(node.ctx, ast.Load, path)
                if isinstance(node, ast.arg):
                    self.assertNotIn(node.arg, dir(builtins), path)
                    self.assertNotIn(node.arg, own, path)
                if isinstance(node, (ast.FunctionDef, ast.ClassDef)):
                    self.assertNotIn(node.name, BARRED_NAMES, path)
                    self.assertNotIn(node.name, BUILTINS, path)

    def test_locals_hide_no_import(self):
        for path, tree in trees().items():
            own = {name for _, name in imported(tree)} | {n.name for n in tree.body if isinstance(n, ast.ClassDef)}
            for node in ast.walk(tree):
                if isinstance(node, ast.Name) and isinstance(node.ctx, ast.Store):
                    self.assertNotIn(node.id, own, path)

    def test_methods(self):
        own = {node.name for _, node in nodes(ast.FunctionDef)}
        for path, node in nodes(ast.Call):
            if isinstance(node.func, ast.Attribute):
                self.assertIn(node.func.attr, METHODS | own, f"{path.name}:{node.lineno}")

    def test_decorators(self):
        for path, node in nodes((ast.FunctionDef, ast.ClassDef)):
            for decorator in node.decorator_list:
                self.assertRegex(ast.unparse(decorator), r"\A(property|staticmethod|classmethod|\w+\.setter)\Z", path)

    def test_identity(self):
        for path, node in nodes(ast.Compare):
            for sign, right in zip(node.ops, node.comparators):
                if isinstance(sign, (ast.Is, ast.IsNot)):
                    self.assertIsInstance(right, (ast.Constant, ast.Name), path)

    def test_handlers(self):
        own = {node.name for _, node in nodes(ast.ClassDef)}
        for path, node in nodes(ast.ExceptHandler):
            self.assertIsNotNone(node.type, path)
            caught = node.type.elts if isinstance(node.type, ast.Tuple) else [node.type]
            for error in caught:
                self.assertIn(error.id, own | CAUGHT_BUILTINS, path)

    def test_lists_for_any_and_all(self):
        for path, node in nodes(ast.GeneratorExp):
            self.fail(f"{path.name}:{node.lineno}: a list is safe where a class has its own equality")


if __name__ == "__main__":
    unittest.main()
