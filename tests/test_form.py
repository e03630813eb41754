"""Those rules of the program's form that can be seen in its files without reading them whole."""

import ast
import pathlib
import re
import unittest

ROOT = pathlib.Path(__file__).resolve().parent.parent
PACKAGE = ROOT / "widthwise"

BUILTINS = set(
    "len range enumerate zip min max sum abs sorted reversed int str bool bytes list tuple dict set "
    "frozenset isinstance ord repr any all divmod pow getattr hasattr setattr iter next map Exception "
    "ValueError TypeError KeyError IndexError LookupError ZeroDivisionError ArithmeticError "
    "OverflowError RuntimeError NotImplementedError AttributeError StopIteration NotImplemented".split()
)
LIBRARY = {
    "heapq": {"heappush", "heappop", "heapify", "heapreplace", "heappushpop"},
    "math": {"gcd", "lcm", "isqrt", "comb", "perm", "factorial"},
    "itertools": {"product", "combinations", "permutations", "chain", "accumulate", "pairwise",
                  "islice", "zip_longest"},
    "collections": {"defaultdict"},
}
UNUSED = set(
    "register mro elements open input law version_info with_traceback add_note attrgetter breakpoint "
    "builtins compile copyright credits delattr dir eval exec exit gc globals help id importlib license "
    "locals methodcaller os quit super type vars sys".split()
)


def files():
    return sorted(path for path in PACKAGE.rglob("*") if "__pycache__" not in path.parts)


def trees():
    return [(path.name, ast.parse(path.read_text())) for path in files()]


def nodes(kind):
    return [(name, node) for name, tree in trees() for node in ast.walk(tree) if isinstance(node, kind)]


def bound_names(tree):
    """The names that a file binds anywhere in it."""
    found = set()
    for node in ast.walk(tree):
        if isinstance(node, (ast.FunctionDef, ast.ClassDef)):
            found.add(node.name)
        elif isinstance(node, ast.arg):
            found.add(node.arg)
        elif isinstance(node, ast.Name) and isinstance(node.ctx, ast.Store):
            found.add(node.id)
        elif isinstance(node, ast.alias):
            found.add(node.asname or node.name)
        elif isinstance(node, ast.ExceptHandler) and node.name:
            found.add(node.name)
    return found


def bound_on_top(tree):
    """The names that a file defines at module level, those of its imports not among them."""
    found = set()
    for node in tree.body:
        if isinstance(node, (ast.FunctionDef, ast.ClassDef)):
            found.add(node.name)
        elif isinstance(node, ast.Assign):
            found.update([target.id for target in node.targets])
    return found


class FormTest(unittest.TestCase):

    def test_the_folder_has_plain_files_alone(self):
        self.assertIn(PACKAGE / "__init__.py", files())
        for path in files():
            self.assertTrue(path.is_file(), path)
            self.assertRegex(path.name, r"^[a-z0-9_]+\.py$")

    def test_signs_and_sizes(self):
        for path in files():
            text = path.read_bytes().decode("ascii")
            self.assertRegex(text, re.compile(r"\A[ -~\n]*\Z"), path)
            rows = text.split("\n")
            self.assertLessEqual(len(rows), 400, path)
            self.assertLessEqual(max([len(row) for row in rows]), 120, path)
        for name, node in nodes((ast.FunctionDef, ast.AsyncFunctionDef)):
            self.assertLessEqual(node.end_lineno - node.lineno + 1, 40, (name, node.name))

    def test_imports(self):
        for name, node in nodes(ast.Import):
            self.fail(name)
        for name, node in nodes(ast.ImportFrom):
            self.assertEqual(node.level, 0, name)
            if node.module.split(".")[0] == "widthwise":
                defining = ROOT / (node.module.replace(".", "/") + ".py")
                bound = bound_on_top(ast.parse(defining.read_text()))
                for one in node.names:
                    self.assertIn(one.name, bound, name)
            else:
                for one in node.names:
                    self.assertIn(one.name, LIBRARY[node.module], name)
                    self.assertIsNone(one.asname)

    def test_only_the_builtins_that_may_be_used(self):
        for name, tree in trees():
            bound = bound_names(tree)
            self.assertFalse(bound & (BUILTINS | UNUSED), name)
            for node in ast.walk(tree):
                if isinstance(node, ast.Name) and isinstance(node.ctx, ast.Load):
                    self.assertIn(node.id, bound | BUILTINS, name)

    def test_no_name_of_a_class_or_an_import_is_bound_again(self):
        for name, tree in trees():
            taken = [node.name for node in tree.body if isinstance(node, ast.ClassDef)]
            taken += [one.name for node in tree.body if isinstance(node, ast.ImportFrom) for one in node.names]
            top = taken + sorted(bound_on_top(tree) - set(taken))
            self.assertEqual(len(top), len(set(top)), name)
            within = set()
            for node in ast.walk(tree):
                if isinstance(node, ast.arg):
                    within.add(node.arg)
                elif isinstance(node, ast.Name) and isinstance(node.ctx, ast.Store):
                    within.add(node.id)
            self.assertFalse(within & set(taken), name)

    def test_no_name_is_a_method_and_an_attribute(self):
        for name, node in nodes(ast.ClassDef):
            methods = {one.name for one in node.body if isinstance(one, ast.FunctionDef)}
            attributes = {one.attr for one in ast.walk(node)
                          if isinstance(one, ast.Attribute) and isinstance(one.ctx, ast.Store)}
            self.assertFalse(methods & attributes, (name, node.name))
            self.assertEqual(len(methods), len([one for one in node.body if isinstance(one, ast.FunctionDef)]))

    def test_no_attribute_has_the_name_of_any_method(self):
        methods = {one.name for _, node in nodes(ast.ClassDef) for one in node.body if isinstance(one, ast.FunctionDef)}
        for name, node in nodes(ast.Attribute):
            if isinstance(node.ctx, ast.Store):
                self.assertNotIn(node.attr, methods, name)

    def test_no_decorators_and_no_barred_statements(self):
        for name, node in nodes((ast.Global, ast.AsyncFunctionDef, ast.AsyncFor, ast.AsyncWith, ast.Div)):
            self.fail((name, node))
        for name, node in nodes((ast.FunctionDef, ast.ClassDef)):
            self.assertEqual(node.decorator_list, [], (name, node.name))

    def test_values(self):
        for name, node in nodes(ast.Constant):
            self.assertNotIsInstance(node.value, (float, complex), name)
            if isinstance(node.value, str):
                self.assertNotIn("%", node.value, name)

    def test_the_top_of_a_file_holds_no_other_statements(self):
        for name, tree in trees():
            self.assertIsInstance(tree.body[0].value, ast.Constant, name)
            for node in tree.body[1:]:
                self.assertIsInstance(
                    node, (ast.ImportFrom, ast.FunctionDef, ast.ClassDef, ast.Assign, ast.AnnAssign), name)


if __name__ == "__main__":
    unittest.main()
