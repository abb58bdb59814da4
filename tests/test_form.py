"""The form of the package's files, so far as a plain look at them can tell: ../shared/LANGUAGE.md."""

import ast
import re
import unittest
from pathlib import Path

PACKAGE = Path(__file__).resolve().parent.parent / "backwater"
FILES = sorted(PACKAGE.glob("*.py"))

BUILTINS = set(
    "len range enumerate zip min max sum abs sorted reversed int str bool bytes list tuple dict set isinstance ord"
    " repr any all divmod iter next super Exception ValueError TypeError KeyError IndexError LookupError"
    " ZeroDivisionError ArithmeticError OverflowError RuntimeError NotImplementedError property staticmethod"
    " classmethod NotImplemented".split()
)
MAGIC = {"__init__", "__eq__", "__repr__", "__str__", "__len__", "__iter__", "__call__", "__enter__", "__exit__"}
BARRED_WORDS = (
    "type typing typing_extensions enum Enum IntEnum StrEnum Flag IntFlag Generic Protocol ABC ABCMeta namedtuple"
    " NamedTuple TypedDict TYPE_CHECKING abstractmethod"
).split()
BARRED_NAMES = set(
    "register mro elements open input version_info with_traceback add_note attrgetter breakpoint builtins compile"
    " copyright credits delattr dir eval exec exit gc getattr globals hasattr help id importlib license locals"
    " methodcaller os quit setattr type vars sys hash map filter round format object float".split()
)
BARRED_NODES = (
    ast.Global, ast.AsyncFunctionDef, ast.AsyncFor, ast.AsyncWith, ast.Await, ast.Div, ast.Import,
)


def trees():
    return [(path, ast.parse(path.read_text())) for path in FILES]


def nodes():
    return [(f"{path.name}:{getattr(node, 'lineno', 0)}", node) for path, tree in trees() for node in ast.walk(tree)]


def bound_names(node):
    """The names that a node binds or stores."""
    if isinstance(node, (ast.FunctionDef, ast.ClassDef)):
        return [node.name]
    if isinstance(node, ast.arg):
        return [node.arg]
    if isinstance(node, ast.ExceptHandler):
        return [node.name] if node.name else []
    if isinstance(node, ast.Name) and isinstance(node.ctx, ast.Store):
        return [node.id]
    if isinstance(node, ast.Attribute) and isinstance(node.ctx, ast.Store):
        return [node.attr]
    return []


class FormTest(unittest.TestCase):
    def test_the_folder_has_only_files_of_the_package(self):
        names = {path.name for path in PACKAGE.iterdir() if path.name != "__pycache__"}
        self.assertEqual(names, {path.name for path in FILES})
        self.assertIn("__init__.py", names)
        for name in names:
            self.assertRegex(name, r"\A[a-z0-9_]+\.py\Z")

    def test_imports(self):
        seen = {}
        for path, tree in trees():
            froms = [node for node in ast.walk(tree) if isinstance(node, ast.ImportFrom)]
            self.assertTrue(all(node in tree.body for node in froms), path)
            for node in froms:
                self.assertEqual(node.level, 0, path)
                self.assertRegex(node.module, r"\Abackwater\.[a-z]+\Z")
                home = ast.parse((PACKAGE / (node.module.split(".")[1] + ".py")).read_text())
                defined = {name for top in home.body for sub in [top, *ast.walk(top)] for name in bound_names(sub)}
                for alias in node.names:
                    self.assertIn(alias.name, defined, path)
                    self.assertIsNone(alias.asname, path)
            seen[path.stem] = {node.module.split(".")[1] for node in froms}
        while seen:
            free = [name for name in seen if not seen[name] & set(seen)]
            self.assertTrue(free, f"imports in a ring: {seen}")
            seen = {name: seen[name] for name in seen if name not in free}

    def test_module_level(self):
        allowed = (ast.ImportFrom, ast.FunctionDef, ast.ClassDef, ast.Assign)
        for path, tree in trees():
            self.assertIsNotNone(ast.get_docstring(tree), path)
            for node in tree.body[1:]:
                self.assertIsInstance(node, allowed, f"{path.name}:{node.lineno}")
            names = [name for node in tree.body for name in top_names(node)]
            self.assertEqual(len(names), len(set(names)), path)

    def test_nodes_that_are_barred(self):
        for place, node in nodes():
            self.assertNotIsInstance(node, BARRED_NODES, place)
            if isinstance(node, ast.Constant):
                self.assertNotIsInstance(node.value, (float, complex), place)
            if isinstance(node, ast.Compare):
                for sign, right in zip(node.ops, node.comparators):
                    if isinstance(sign, (ast.Is, ast.IsNot)):
                        self.assertIn(getattr(right, "value", 0), (None, True, False), place)

    def test_names(self):
        for place, node in nodes():
            for name in bound_names(node):
                if name in MAGIC:
                    continue
                self.assertRegex(name, r"\A[A-Za-z][A-Za-z0-9_]*\Z", place)
                self.assertNotIn(name, BARRED_NAMES, place)
                self.assertNotIn(name, BUILTINS, place)

    def test_only_the_builtins_told(self):
        for path, tree in trees():
            own = {name for node in ast.walk(tree) for name in bound_names(node)}
            own |= {alias.name for node in ast.walk(tree) if isinstance(node, ast.ImportFrom) for alias in node.names}
            for node in ast.walk(tree):
                if isinstance(node, ast.Name) and node.id not in own:
                    self.assertIn(node.id, BUILTINS, f"{path.name}:{node.lineno}")

    def test_sizes_and_signs(self):
        for path in FILES:
            text = path.read_text()
            lines = text.split("\n")
            self.assertLessEqual(len(lines), 400, path)
            for at, line in enumerate(lines, start=1):
                self.assertRegex(line, r"\A[ -~]{0,120}\Z", f"{path.name}:{at}")
                self.assertEqual(line, line.rstrip(), f"{path.name}:{at}")
        for place, node in nodes():
            if isinstance(node, ast.FunctionDef):
                self.assertLessEqual(node.end_lineno - node.lineno + 1, 40, place)

    def test_words_that_are_barred(self):
        for path in FILES:
            for word in re.findall(r"\w+", path.read_text()):
                self.assertNotIn(word, BARRED_WORDS, path)
                self.assertIsNone(re.search("dataclass|overload|contextmanager", word), path)

    def test_no_name_is_both_a_method_and_an_attribute(self):
        classes = [node for place, node in nodes() if isinstance(node, ast.ClassDef)]
        methods = {sub.name for node in classes for sub in node.body if isinstance(sub, ast.FunctionDef)}
        stored = {
            node.attr for place, node in nodes()
            if isinstance(node, ast.Attribute) and isinstance(node.ctx, ast.Store)
        }
        self.assertEqual(methods & stored, set())

    def test_no_generator_where_a_list_is_wanted(self):
        for place, node in nodes():
            if isinstance(node, ast.Call) and getattr(node.func, "id", "") in ("any", "all", "min", "max", "sum", "sorted"):
                for given in node.args:
                    self.assertNotIsInstance(given, ast.GeneratorExp, place)

    def test_no_lambda_default_star_or_decorator_beyond_the_rules(self):
        for place, node in nodes():
            if isinstance(node, ast.arguments):
                self.assertEqual(node.posonlyargs, [])
            if isinstance(node, ast.FunctionDef):
                for decorator in node.decorator_list:
                    self.assertIsInstance(decorator, (ast.Name, ast.Attribute), place)
            if isinstance(node, ast.ClassDef):
                self.assertEqual(node.decorator_list, [], place)


def top_names(node):
    """The names that a statement at module level binds."""
    if isinstance(node, ast.ImportFrom):
        return [alias.asname or alias.name for alias in node.names]
    if isinstance(node, ast.Assign):
        return [target.id for target in node.targets]
    return bound_names(node)


if __name__ == "__main__":
    unittest.main()
