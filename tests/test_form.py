"""The interface is defined where it is listed, and the files keep to the form asked of them."""

import ast
import inspect
import pathlib
import unittest

import cursorscripts.commands
import cursorscripts.errors
import cursorscripts.trees

PACKAGE = pathlib.Path(cursorscripts.errors.__file__).parent
FUNCTIONS = {
    cursorscripts.trees: {
        "is_tree": "(thing)", "check_state": "(thing)", "nodes_of": "(state)", "whole": "(state)",
        "path_of": "(state)", "mirror_of": "(state)", "state_at": "(tree, path, hand=())",
    },
    cursorscripts.commands: {
        "check_script": "(thing)", "run": "(steps, state)", "mirrored": "(steps)",
    },
}
LIBRARY = ("heapq", "math", "itertools", "collections")
BARRED_NAMES = ("open", "input", "eval", "exec", "id", "hash", "type", "vars", "globals", "locals", "chr", "filter",
                "round", "dir", "compile", "delattr", "help", "elements", "register", "law")
BARRED_NODES = (ast.Global, ast.AsyncFunctionDef, ast.AsyncFor, ast.AsyncWith, ast.Await, ast.Div)


def trees_of_files():
    return [(path, ast.parse(path.read_text())) for path in sorted(PACKAGE.rglob("*.py"))]


class InterfaceTest(unittest.TestCase):
    def test_functions_stand_in_their_files_with_their_arguments(self):
        for module, functions in FUNCTIONS.items():
            tree = ast.parse(pathlib.Path(module.__file__).read_text())
            defined = [node.name for node in tree.body if isinstance(node, ast.FunctionDef)]
            for name, arguments in functions.items():
                self.assertEqual(defined.count(name), 1, name)
                self.assertEqual(str(inspect.signature(getattr(module, name))), arguments, name)


class FormTest(unittest.TestCase):
    def test_only_plain_files(self):
        for path in PACKAGE.rglob("*"):
            if "__pycache__" not in path.parts:
                self.assertTrue(path.is_dir() or path.suffix == ".py", path)
        self.assertTrue((PACKAGE / "__init__.py").is_file())

    def test_sizes_and_characters(self):
        for path, tree in trees_of_files():
            text = path.read_text()
            self.assertLessEqual(len(text.splitlines()), 399, path)
            self.assertEqual([line for line in text.splitlines() if len(line) > 120], [], path)
            self.assertEqual([c for c in text if not (" " <= c <= "~" or c == "\n")], [], path)
            for node in ast.walk(tree):
                if isinstance(node, ast.FunctionDef):
                    self.assertLessEqual(node.end_lineno - node.lineno + 1, 40, node.name)

    def test_no_decorators_over_functions_of_a_file(self):
        for _, tree in trees_of_files():
            for node in tree.body:
                self.assertEqual(getattr(node, "decorator_list", []), [])

    def test_imports_from_the_package_or_the_few_of_the_library(self):
        for path, tree in trees_of_files():
            for node in ast.walk(tree):
                self.assertNotIsInstance(node, ast.Import, path)
                if isinstance(node, ast.ImportFrom):
                    self.assertIn(node, tree.body)
                    self.assertEqual(node.level, 0, path)
                    self.assertTrue(node.module.startswith("cursorscripts.") or node.module in LIBRARY, path)
                    self.assertNotIn("*", [name.name for name in node.names])

    def test_nothing_that_is_barred(self):
        for path, tree in trees_of_files():
            for node in ast.walk(tree):
                self.assertNotIsInstance(node, BARRED_NODES, path)
                if isinstance(node, ast.Constant):
                    self.assertNotIsInstance(node.value, (float, complex), path)
                    self.assertFalse(isinstance(node.value, str) and chr(37) in node.value, path)
                if isinstance(node, ast.Name):
                    self.assertNotIn(node.id, BARRED_NAMES, path)


if __name__ == "__main__":
    unittest.main()
