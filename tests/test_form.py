"""The interface as it is listed, and what can be checked of the form of the code."""

import ast
import importlib
import pathlib
import unittest

PACKAGE = pathlib.Path(__file__).resolve().parent.parent / "busfind"
FILES = sorted(PACKAGE.glob("*.py"))
FUNCTIONS = {
    "numbers": ["met"],
    "papers": ["shown", "fewest"],
    "rosters": ["judged", "least"],
    "plans": ["plan_of", "follows", "followed"],
    "days": ["played"],
    "notes": ["written", "read"],
}
CLASSES = {
    "wire": {"Wire": ["hang", "off", "alarm", "calm", "begin", "say", "look", "hung", "alarms", "looks"]},
    "walks": {"Walk": ["step", "go_round", "go_all", "left", "found", "paper", "is_under_way"]},
    "desk": {"Desk": ["turn"]},
    "keeper": {"Keeper": ["refresh", "last"]},
}
LIBRARY = {"heapq", "math", "itertools", "collections"}


class InterfaceTest(unittest.TestCase):
    def test_functions_are_defined_where_they_are_listed(self):
        for file, names in FUNCTIONS.items():
            module = importlib.import_module(f"busfind.{file}")
            for name in names:
                self.assertEqual(getattr(module, name).__module__, module.__name__)

    def test_classes_define_their_methods_themselves(self):
        for file, classes in CLASSES.items():
            module = importlib.import_module(f"busfind.{file}")
            for name, methods in classes.items():
                self.assertEqual(getattr(module, name).__module__, module.__name__)
                for method in methods:
                    self.assertIn(method, vars(getattr(module, name)))


class FormTest(unittest.TestCase):
    def test_the_folder_holds_python_files_only(self):
        others = [path.name for path in PACKAGE.iterdir() if path.suffix != ".py"]
        self.assertEqual([name for name in others if name != "__pycache__"], [])

    def test_lines_and_characters(self):
        for path in FILES:
            text = path.read_bytes().decode("ascii")
            self.assertLessEqual(len(text.split("\n")), 400, path.name)
            for line in text.split("\n"):
                self.assertLessEqual(len(line), 120, path.name)
                self.assertTrue(all(" " <= sign <= "~" for sign in line), path.name)

    def test_functions_are_short(self):
        for path in FILES:
            for node in ast.walk(ast.parse(path.read_text())):
                if isinstance(node, ast.FunctionDef):
                    self.assertLessEqual(node.end_lineno - node.lineno + 1, 40, (path.name, node.name))

    def test_imports_are_of_the_package(self):
        for path in FILES:
            for node in ast.walk(ast.parse(path.read_text())):
                self.assertNotIsInstance(node, ast.Import, path.name)
                if isinstance(node, ast.ImportFrom):
                    self.assertEqual(node.level, 0, path.name)
                    self.assertTrue(node.module.startswith("busfind.") or node.module in LIBRARY, path.name)


if __name__ == "__main__":
    unittest.main()
