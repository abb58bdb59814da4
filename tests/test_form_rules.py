"""More of ../shared/LANGUAGE.md, rule by rule, so far as a walk over the trees of the package's files can tell."""

import ast
import io
import re
import tokenize
import unittest

from tests.test_form import BUILTINS, FILES, bound_names, trees

BUILTIN_METHODS = set(
    "append clear copy count endswith extend find get index insert isalnum isalpha isdigit islower isspace isupper items"
    " join keys ljust lower lstrip partition pop remove replace reverse rfind rjust rpartition rsplit rstrip setdefault"
    " split splitlines startswith strip update upper values zfill bit_length title capitalize swapcase casefold center"
    " expandtabs removeprefix removesuffix rindex isascii isdecimal isnumeric istitle isidentifier isprintable".split()
)
VIEWS = {"range", "zip", "enumerate", "reversed", "items", "keys", "values"}
EATERS = {"list", "tuple", "dict", "sorted", "sum", "any", "all", "enumerate", "zip", "min", "max", "join"}
BUILTIN_KEYWORDS = {
    "sorted": {"key", "reverse"}, "min": {"key", "default"}, "max": {"key", "default"}, "sum": {"start"},
    "enumerate": {"start"}, "zip": {"strict"},
}
OWN_MAGIC = {"__init__", "__eq__", "__repr__", "__str__", "__len__"}


def walked():
    """Every node of every file, with its parents, the nearest one first, and where it stands."""
    for path, tree in trees():
        stack = [(tree, ())]
        while stack:
            node, parents = stack.pop()
            yield f"{path.name}:{getattr(node, 'lineno', 0)}", node, parents
            stack.extend((child, (node, *parents)) for child in ast.iter_child_nodes(node))


def called(node):
    """The name by which a call calls, or None."""
    if not isinstance(node, ast.Call):
        return None
    return node.func.id if isinstance(node.func, ast.Name) else getattr(node.func, "attr", None)


def own_methods():
    return {
        sub.name for place, node, parents in walked() if isinstance(node, ast.ClassDef)
        for sub in node.body if isinstance(sub, ast.FunctionDef)
    }


def own_classes():
    return {node.name for place, node, parents in walked() if isinstance(node, ast.ClassDef)}


def is_plain(node, functions):
    """Whether an expression at module level is a plain value, or a tuple, list or dict of these and of functions."""
    if isinstance(node, ast.Constant):
        return True
    if isinstance(node, ast.Name):
        return node.id in functions
    if isinstance(node, (ast.Tuple, ast.List)):
        return all(is_plain(part, functions) and not isinstance(part, (ast.List, ast.Dict)) for part in node.elts)
    if isinstance(node, ast.Dict):
        parts = [*node.keys, *node.values]
        return all(is_plain(part, functions) and not isinstance(part, (ast.List, ast.Dict)) for part in parts)
    if isinstance(node, ast.BinOp):
        return is_plain(node.left, ()) and is_plain(node.right, ())
    return False


class RulesTest(unittest.TestCase):
    def test_l3_module_level_values(self):
        for path, tree in trees():
            functions = []
            for node in tree.body:
                if isinstance(node, ast.FunctionDef):
                    functions.append(node.name)
                if isinstance(node, ast.Assign):
                    self.assertTrue(is_plain(node.value, functions), f"{path.name}:{node.lineno}")

    def test_l3_tables_are_called_by_a_name(self):
        for place, node, parents in walked():
            if isinstance(node, ast.Call):
                self.assertIsInstance(node.func, (ast.Name, ast.Attribute), place)

    def test_l4_defaults_and_stars(self):
        for place, node, parents in walked():
            if isinstance(node, ast.arguments):
                self.assertIsNone(node.vararg, place)
                self.assertIsNone(node.kwarg, place)
                for default in [*node.defaults, *filter(None, node.kw_defaults)]:
                    fits = isinstance(default, (ast.Constant, ast.Name)) or ast.unparse(default) == "()"
                    self.assertTrue(fits, place)

    def test_l5_methods_of_two_underscores(self):
        for place, node, parents in walked():
            if isinstance(node, ast.FunctionDef) and node.name.startswith("__"):
                self.assertIn(node.name, OWN_MAGIC, place)
                self.assertIsInstance(parents[0], ast.ClassDef, place)

    def test_l6_finally_does_no_more_than_it_may(self):
        for place, node, parents in walked():
            if isinstance(node, ast.Try):
                for step in node.finalbody:
                    self.assertEqual((called(step.value), len(step.value.args)), ("append", 1), place)
                    self.assertIsInstance(step.value.args[0], ast.Constant, place)

    def test_l6_and_l7_what_is_left_out_altogether(self):
        barred = (ast.Match, ast.With, ast.Yield, ast.YieldFrom, ast.GeneratorExp, ast.Lambda, ast.NamedExpr, ast.Nonlocal,
                  ast.Starred, ast.Assert, ast.AnnAssign)
        for place, node, parents in walked():
            self.assertNotIsInstance(node, barred, place)

    def test_l15_no_name_of_an_import_a_class_or_a_builtin_is_used_again(self):
        for path, tree in trees():
            taken = {alias.name for node in tree.body if isinstance(node, ast.ImportFrom) for alias in node.names}
            taken |= {node.name for node in tree.body if isinstance(node, ast.ClassDef)} | BUILTINS
            for top in tree.body:
                for node in ast.walk(top):
                    local = isinstance(node, (ast.arg, ast.ExceptHandler))
                    if local or isinstance(node, ast.Name) and isinstance(node.ctx, ast.Store):
                        self.assertFalse(set(bound_names(node)) & taken, f"{path.name}:{node.lineno}")

    def test_l15_tables_at_module_level_are_only_read(self):
        for path, tree in trees():
            tables = {
                name for node in tree.body if isinstance(node, ast.Assign) and isinstance(node.value, (ast.Dict, ast.List))
                for target in node.targets for name in bound_names(target)
            }
            for node in ast.walk(tree):
                for child in ast.iter_child_nodes(node):
                    if isinstance(child, ast.Name) and child.id in tables and isinstance(child.ctx, ast.Load):
                        reads = isinstance(node, (ast.Subscript, ast.Compare, ast.For, ast.comprehension))
                        self.assertTrue(reads, f"{path.name}:{child.lineno}")

    def test_l18_classes_are_not_passed_on(self):
        classes = own_classes()
        for place, node, parents in walked():
            if isinstance(node, ast.Name) and node.id in classes:
                parent = parents[0]
                asked = called(parent) == "isinstance" and node == parent.args[1]
                fits = isinstance(parent, (ast.ClassDef, ast.ExceptHandler)) or asked
                self.assertTrue(fits or isinstance(parent, ast.Call) and parent.func == node, place)

    def test_l18_attributes_that_are_read_are_stored_somewhere(self):
        stored = {
            node.attr for place, node, parents in walked()
            if isinstance(node, ast.Attribute) and isinstance(node.ctx, ast.Store)
        }
        for place, node, parents in walked():
            if isinstance(node, ast.Attribute) and isinstance(node.ctx, ast.Load):
                if not (isinstance(parents[0], ast.Call) and parents[0].func == node):
                    self.assertIn(node.attr, stored, place)

    def test_l19_handlers_name_own_errors_and_raise_makes_its_error_on_the_spot(self):
        classes = own_classes()
        for place, node, parents in walked():
            if isinstance(node, ast.ExceptHandler):
                self.assertIsInstance(node.type, ast.Name, place)
                self.assertIn(node.type.id, classes, place)
            if isinstance(node, ast.Raise):
                self.assertIn(called(node.exc), classes, place)
                self.assertIsInstance(node.cause, (ast.Name, type(None)), place)

    def test_l22_keywords_of_builtins(self):
        methods = own_methods()
        for place, node, parents in walked():
            name = called(node)
            if name in BUILTINS:
                given = {keyword.arg for keyword in node.keywords}
                self.assertLessEqual(given, BUILTIN_KEYWORDS.get(name, set()), place)
            elif name in BUILTIN_METHODS:
                self.assertEqual(node.keywords, [], place)
            elif isinstance(node, ast.Call) and isinstance(node.func, ast.Attribute) and name not in methods:
                self.assertEqual(ast.unparse(node.func), "super().__init__", place)

    def test_l23_iterated_at_once(self):
        for place, node, parents in walked():
            if called(node) in VIEWS:
                parent = parents[0]
                looped = isinstance(parent, (ast.For, ast.comprehension)) and parent.iter == node
                turned = called(node) == "range" and called(parent) == "reversed"
                self.assertTrue(looped or turned or called(parent) in EATERS, place)

    def test_l23_what_a_loop_goes_over_is_not_changed_in_it(self):
        for place, node, parents in walked():
            if isinstance(node, ast.For) and isinstance(node.iter, ast.Name):
                for sub in [deep for step in node.body for deep in ast.walk(step)]:
                    if isinstance(sub, ast.Call) and isinstance(sub.func, ast.Attribute):
                        self.assertNotEqual(ast.unparse(sub.func.value), node.iter.id, place)
                    if isinstance(sub, ast.Subscript) and not isinstance(sub.ctx, ast.Load):
                        self.assertNotEqual(ast.unparse(sub.value), node.iter.id, place)

    def test_l24_sets_stand_only_where_they_may(self):
        for place, node, parents in walked():
            if isinstance(node, (ast.Set, ast.SetComp)) or called(node) == "set":
                parent = parents[0]
                bare = called(parent) in ("sorted", "len") and parent.keywords == []
                self.assertTrue(bare or isinstance(parent, ast.Compare), place)
            self.assertNotEqual(called(node), "frozenset", place)

    def test_l25_methods_of_builtin_values(self):
        methods = own_methods() | BUILTIN_METHODS | {"__init__"}
        for place, node, parents in walked():
            if isinstance(node, ast.Call) and isinstance(node.func, ast.Attribute):
                self.assertIn(node.func.attr, methods, place)
            self.assertNotEqual(called(node), "sort", place)

    def test_l26_own_methods_and_attributes(self):
        taken = {name for kind in (str, int, list, dict, set, bytes, tuple) for name in dir(kind)}
        for name in own_methods() - OWN_MAGIC:
            self.assertNotIn(name, taken - {"count"})
        for place, node, parents in walked():
            if isinstance(node, ast.Attribute) and isinstance(node.ctx, ast.Store):
                self.assertNotIn(node.attr, taken | {"args"}, place)

    def test_l27_numbers_and_texts(self):
        for place, node, parents in walked():
            if isinstance(node, ast.BinOp) and isinstance(node.op, ast.Pow):
                self.assertIn(getattr(node.right, "value", None), range(65), place)
            if isinstance(node, ast.Constant) and isinstance(node.value, str):
                self.assertNotIn("%", node.value, place)
                self.assertFalse(node.value.endswith(("._", ".__")), place)

    def test_l27_escapes(self):
        for path in FILES:
            for token in tokenize.generate_tokens(io.StringIO(path.read_text()).readline):
                if tokenize.tok_name[token.type] in ("STRING", "FSTRING_MIDDLE", "FSTRING_START"):
                    for sign in re.findall(r"\\(.)", token.string, re.DOTALL):
                        self.assertIn(sign, "nt\\'\"", f"{path.name}:{token.start[0]}")

    def test_l28_methods_of_two_underscores_do_nothing_but_return(self):
        for place, node, parents in walked():
            if isinstance(node, ast.FunctionDef) and node.name in OWN_MAGIC - {"__init__"}:
                self.assertIsInstance(node.body[-1], ast.Return, place)
                self.assertEqual(len(node.body), 1, place)
                if node.name == "__len__":
                    self.assertEqual(called(node.body[0].value), "len", place)
            if isinstance(node, ast.FunctionDef) and node.name == "__init__":
                self.assertFalse([sub for sub in ast.walk(node) if isinstance(sub, ast.Return)], place)


if __name__ == "__main__":
    unittest.main()
