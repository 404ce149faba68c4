"""Some of the rules in which the package is written, as far as they are easily seen in its files."""

import ast
import builtins
import os
import unittest

from tests.interface import FUNCTIONS, METHODS

FOLDER = os.path.join(os.path.dirname(os.path.dirname(os.path.abspath(__file__))), "aheadcells")
LIBRARY = {
    "heapq": ("heapify", "heappop", "heappush", "heappushpop", "heapreplace"),
    "itertools": ("combinations", "permutations"),
    "math": ("comb", "factorial", "gcd", "isqrt", "lcm", "perm"),
}
CALLED = {
    "len", "range", "enumerate", "zip", "min", "max", "sum", "abs", "sorted", "reversed", "int", "str", "bool",
    "list", "tuple", "dict", "set", "isinstance", "ord", "repr", "any", "all", "divmod",
}
ERRORS = {"ValueError", "KeyError"}
BARRED = {"register", "mro", "elements", "open", "input", "law", "version_info", "with_traceback", "add_note"}
# Most of these may stand under conditions; the package does without them.
UNUSED = (
    ast.GeneratorExp, ast.AsyncFunctionDef, ast.Yield, ast.YieldFrom, ast.Global, ast.With, ast.JoinedStr,
    ast.Starred, ast.NamedExpr, ast.ExceptHandler,
)


def files():
    return sorted(name for name in os.listdir(FOLDER) if name != "__pycache__")


def text_of(name):
    with open(os.path.join(FOLDER, name), encoding="utf-8") as file:
        return file.read()


def nodes_of(name):
    return list(ast.walk(ast.parse(text_of(name))))


def bound_names(tree):
    """All names that a function binds: parameters, targets and nested functions."""
    found = set()
    for node in ast.walk(tree):
        if isinstance(node, ast.Name) and isinstance(node.ctx, ast.Store):
            found.add(node.id)
        if isinstance(node, ast.arg):
            found.add(node.arg)
    return found


class Language(unittest.TestCase):
    def test_files(self):
        for name in files():
            self.assertRegex(name, r"^[a-z_][a-z0-9_]*\.py$")
            text = text_of(name)
            self.assertTrue(all(sign == "\n" or " " <= sign <= "~" for sign in text), name)
            self.assertLess(len(text.splitlines()), 400, name)
            self.assertLessEqual(max(len(line) for line in text.splitlines()), 120, name)

    def test_sizes_of_functions(self):
        for name in files():
            for node in nodes_of(name):
                if isinstance(node, ast.FunctionDef):
                    self.assertLessEqual(node.end_lineno - node.lineno + 1, 40, node.name)
                    self.assertEqual(node.decorator_list, [])

    def test_imports(self):
        for name in files():
            for node in nodes_of(name):
                self.assertNotIsInstance(node, ast.Import)
                if isinstance(node, ast.ImportFrom):
                    names = [part.name for part in node.names]
                    if node.module in LIBRARY:
                        self.assertTrue(set(names) <= set(LIBRARY[node.module]))
                    else:
                        self.check_own_import(node.module, names)

    def check_own_import(self, module, names):
        folder, file = module.split(".")
        self.assertEqual(folder, "aheadcells")
        body = ast.parse(text_of(file + ".py")).body
        defined = {node.name for node in body if isinstance(node, (ast.FunctionDef, ast.ClassDef))}
        self.assertTrue(set(names) <= defined, (module, names))

    def test_all_imports_are_used_and_not_shadowed(self):
        for name in files():
            tree = ast.parse(text_of(name))
            imported = {
                part.name for node in ast.walk(tree) if isinstance(node, ast.ImportFrom) for part in node.names
            }
            used = {node.id for node in ast.walk(tree) if isinstance(node, ast.Name) and isinstance(node.ctx, ast.Load)}
            self.assertEqual(imported - used, set(), name)
            classes = {node.name for node in tree.body if isinstance(node, ast.ClassDef)}
            functions = {node.name for node in tree.body if isinstance(node, ast.FunctionDef)}
            bound = bound_names(tree)
            self.assertEqual(bound & (imported | classes | functions), set(), name)
            self.assertEqual((bound | functions) & (set(dir(builtins)) - {"_"}), set(), name)
            self.assertEqual((bound | functions) & BARRED, set(), name)

    def test_builtins(self):
        for name in files():
            for node in nodes_of(name):
                if isinstance(node, ast.Name) and node.id in dir(builtins):
                    self.assertIn(node.id, CALLED | ERRORS, name)

    def test_statements_and_values(self):
        for name in files():
            for node in nodes_of(name):
                self.assertNotIsInstance(node, UNUSED, name)
                if isinstance(node, ast.Constant):
                    self.assertNotIsInstance(node.value, (float, complex, bytes))
                if isinstance(node, ast.BinOp):
                    self.assertNotIsInstance(node.op, (ast.Div, ast.Pow, ast.MatMult))
                if isinstance(node, ast.Try):
                    # What stands behind a try is put back by plain assignments alone.
                    self.assertTrue(all(isinstance(row, ast.Assign) for row in node.finalbody), name)

    def test_interface_is_defined_where_it_is_listed(self):
        for name, expected in FUNCTIONS.items():
            body = ast.parse(text_of(name + ".py")).body
            defined = {node.name for node in body if isinstance(node, ast.FunctionDef)}
            self.assertTrue(set(expected) <= defined, name)

    def test_methods_are_defined_in_their_class(self):
        for (name, kind), expected in METHODS.items():
            body = ast.parse(text_of(name + ".py")).body
            found = [node for node in body if isinstance(node, ast.ClassDef) and node.name == kind]
            self.assertEqual(len(found), 1, kind)
            methods = {row.name for row in found[0].body if isinstance(row, ast.FunctionDef)}
            self.assertTrue(set(expected) | {"__init__"} <= methods, kind)

    def test_files_do_not_import_from_each_other(self):
        led = {
            name[:-3]: {
                node.module.split(".")[1] for node in nodes_of(name)
                if isinstance(node, ast.ImportFrom) and node.module not in LIBRARY
            }
            for name in files()
        }
        while led:
            free = [name for name, others in led.items() if not others & set(led)]
            self.assertNotEqual(free, [], led)
            for name in free:
                del led[name]


if __name__ == "__main__":
    unittest.main()
