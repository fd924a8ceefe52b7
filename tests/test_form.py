"""The interface is defined where it is listed, and the files keep to the form asked of them."""

import ast
import builtins
import inspect
import pathlib
import unittest

import cursorscripts.alike
import cursorscripts.back
import cursorscripts.before
import cursorscripts.commands
import cursorscripts.counting
import cursorscripts.desk
import cursorscripts.errors
import cursorscripts.likeness
import cursorscripts.lists
import cursorscripts.making
import cursorscripts.patterns
import cursorscripts.places
import cursorscripts.repeats
import cursorscripts.rewritings
import cursorscripts.search
import cursorscripts.trees
import cursorscripts.writing

PACKAGE = pathlib.Path(cursorscripts.errors.__file__).parent
FUNCTIONS = {
    cursorscripts.trees: {
        "is_tree": "(thing)", "check_state": "(thing)", "nodes_of": "(state)", "whole": "(state)",
        "path_of": "(state)", "mirror_of": "(state)", "state_at": "(tree, path, hand=())",
    },
    cursorscripts.commands: {
        "check_script": "(thing)", "run": "(steps, state)", "mirrored": "(steps)",
    },
    cursorscripts.patterns: {
        "check_pattern": "(thing)", "unknowns": "(pattern)", "fits": "(pattern, state)", "filled": "(pattern, things)",
        "meet": "(pattern, other)", "less": "(pattern, other)", "least_state": "(pattern)", "left_out": "(patterns)",
    },
    cursorscripts.rewritings: {
        "check_rewriting": "(thing)", "done": "(rewriting, state)", "follow": "(first, second)",
        "rewritings_of": "(command)",
    },
    cursorscripts.lists: {
        "list_of": "(steps)", "check_list": "(thing)", "done_by": "(rewritings, state)", "both": "(first, second)",
        "either": "(first, second)",
    },
    cursorscripts.alike: {
        "alike": "(steps, other)", "within": "(steps, other)", "check_list_of": "(steps, thing)", "fails": "(steps)",
        "works": "(steps)",
    },
    cursorscripts.making: {"script_of": "(rewritings)"},
    cursorscripts.counting: {
        "count_states": "(nodes, labels)", "count_fits": "(pattern, nodes, labels)",
        "count_works": "(steps, nodes, labels)",
    },
    cursorscripts.back: {
        "clash": "(steps)", "check_clash": "(steps, thing)", "back": "(steps)", "check_back": "(steps, thing)",
    },
    cursorscripts.repeats: {"commute": "(steps, other)", "repeats": "(steps, most)"},
    cursorscripts.places: {
        "far": "(steps)", "check_far": "(steps, thing)", "done_at": "(tree, path, steps)", "sent": "(steps, path)",
    },
    cursorscripts.search: {"shortest": "(steps, commands, most)"},
    cursorscripts.before: {"before": "(steps, pattern)", "sure": "(pattern, steps, other)"},
    cursorscripts.likeness: {"alike_in": "(likeness, steps, other)", "within_in": "(likeness, steps, other)"},
    cursorscripts.writing: {
        "script_text": "(steps)", "read_script": "(text)", "list_text": "(rewritings)", "read_list": "(text)",
    },
}
DESK = {"put": "(self, name, state)", "drop": "(self, name)", "do": "(self, name, steps)", "names": "(self)",
        "state": "(self, name)", "deeds": "(self)", "leave_out": "(self, number)", "undo": "(self)"}
BUILTINS = ("len", "range", "enumerate", "zip", "min", "max", "sum", "abs", "sorted", "reversed", "int", "str", "bool",
            "bytes", "list", "tuple", "dict", "set", "frozenset", "isinstance", "ord", "repr", "any", "all", "divmod",
            "ValueError", "KeyError", "True", "False", "None")
METHODS = ("append", "clear", "count", "endswith", "extend", "find", "get", "index", "insert", "isalpha", "isascii",
           "isdigit", "islower", "items", "join", "keys", "pop", "remove", "replace", "reverse", "setdefault", "split",
           "startswith", "strip", "update", "values")
LIBRARY = ("heapq", "math", "itertools", "collections")
BARRED_NAMES = ("open", "input", "eval", "exec", "id", "hash", "type", "vars", "globals", "locals", "chr", "filter",
                "round", "dir", "compile", "delattr", "help", "elements", "register", "law")
BARRED_NODES = (ast.Global, ast.AsyncFunctionDef, ast.AsyncFor, ast.AsyncWith, ast.Await, ast.Div)


def trees_of_files():
    return [(path, ast.parse(path.read_text())) for path in sorted(PACKAGE.rglob("*.py"))]


class InterfaceTest(unittest.TestCase):
    def test_functions_stand_in_their_files_with_their_arguments(self):
        for module, functions in FUNCTIONS.items():
            tree = ast.parse(pathlib.Path(module.__file__).read_text())
            defined = [node.name for node in tree.body if isinstance(node, ast.FunctionDef)]
            for name, arguments in functions.items():
                self.assertEqual(defined.count(name), 1, name)
                self.assertEqual(str(inspect.signature(getattr(module, name))), arguments, name)

    def test_the_desk_has_its_methods_itself(self):
        tree = ast.parse(pathlib.Path(cursorscripts.desk.__file__).read_text())
        desk = [node for node in tree.body if isinstance(node, ast.ClassDef) and node.name == "Desk"][0]
        defined = [node.name for node in desk.body if isinstance(node, ast.FunctionDef)]
        for name, arguments in DESK.items():
            self.assertEqual(defined.count(name), 1, name)
            self.assertEqual(str(inspect.signature(vars(cursorscripts.desk.Desk)[name])), arguments, name)
        self.assertEqual(str(inspect.signature(cursorscripts.desk.Desk)), "()")


class FormTest(unittest.TestCase):
    def test_only_plain_files(self):
        for path in PACKAGE.rglob("*"):
            if "__pycache__" not in path.parts:
                self.assertTrue(path.is_dir() or path.suffix == ".py", path)
        self.assertTrue((PACKAGE / "__init__.py").is_file())

    def test_sizes_and_characters(self):
        for path, tree in trees_of_files():
            text = path.read_text()
            self.assertLessEqual(len(text.splitlines()), 399, path)
            self.assertEqual([line for line in text.splitlines() if len(line) > 120], [], path)
            self.assertEqual([c for c in text if not (" " <= c <= "~" or c == "\n")], [], path)
            for node in ast.walk(tree):
                if isinstance(node, ast.FunctionDef):
                    self.assertLessEqual(node.end_lineno - node.lineno + 1, 40, node.name)

    def test_no_decorators_over_functions_of_a_file(self):
        for _, tree in trees_of_files():
            for node in tree.body:
                self.assertEqual(getattr(node, "decorator_list", []), [])

    def test_imports_from_the_package_or_the_few_of_the_library(self):
        for path, tree in trees_of_files():
            for node in ast.walk(tree):
                self.assertNotIsInstance(node, ast.Import, path)
                if isinstance(node, ast.ImportFrom):
                    self.assertIn(node, tree.body)
                    self.assertEqual(node.level, 0, path)
                    self.assertTrue(node.module.startswith("cursorscripts.") or node.module in LIBRARY, path)
                    self.assertNotIn("*", [name.name for name in node.names])

    def test_builtins_are_the_few_and_no_other_name_is_theirs(self):
        for path, tree in trees_of_files():
            for node in ast.walk(tree):
                if isinstance(node, ast.Name) and hasattr(builtins, node.id):
                    self.assertIn(node.id, BUILTINS, path)
                    self.assertIsInstance(node.ctx, ast.Load, node.id)
                if isinstance(node, (ast.FunctionDef, ast.ClassDef)) and node.name != "__init__":
                    self.assertFalse(hasattr(builtins, node.name), node.name)
                if isinstance(node, ast.arg):
                    self.assertFalse(hasattr(builtins, node.arg), node.arg)

    def test_methods_are_the_few_or_own_ones(self):
        files = trees_of_files()
        own = {node.name for _, tree in files for node in ast.walk(tree) if isinstance(node, ast.FunctionDef)}
        for path, tree in files:
            for node in ast.walk(tree):
                if isinstance(node, ast.Call) and isinstance(node.func, ast.Attribute):
                    self.assertIn(node.func.attr, own.union(METHODS), path)

    def test_no_import_is_unused_or_stands_for_something_else(self):
        for path, tree in trees_of_files():
            imported = [name.name for node in tree.body if isinstance(node, ast.ImportFrom) for name in node.names]
            names = [node for node in ast.walk(tree) if isinstance(node, ast.Name)]
            for name in imported:
                self.assertEqual({node.ctx.__class__ for node in names if node.id == name}, {ast.Load}, (path, name))
                self.assertNotIn(name, [node.arg for node in ast.walk(tree) if isinstance(node, ast.arg)], path)

    def test_no_two_files_import_from_each_other(self):
        imports = {f"cursorscripts.{path.stem}": [node.module for node in tree.body if isinstance(node, ast.ImportFrom)]
                   for path, tree in trees_of_files()}
        left = dict(imports)
        while left:
            free = [name for name, needed in left.items() if not any(module in left for module in needed)]
            self.assertNotEqual(free, [], left)
            left = {name: needed for name, needed in left.items() if name not in free}

    def test_nothing_that_is_barred(self):
        for path, tree in trees_of_files():
            for node in ast.walk(tree):
                self.assertNotIsInstance(node, BARRED_NODES, path)
                if isinstance(node, ast.Constant):
                    self.assertNotIsInstance(node.value, (float, complex), path)
                    self.assertFalse(isinstance(node.value, str) and chr(37) in node.value, path)
                if isinstance(node, ast.Name):
                    self.assertNotIn(node.id, BARRED_NAMES, path)


if __name__ == "__main__":
    unittest.main()
