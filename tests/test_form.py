"""The form of the package's files, as far as a test can easily tell it, and where the interface stands."""

import ast
import importlib
import pathlib
import unittest

PACKAGE = pathlib.Path(__file__).resolve().parent.parent / "contentnames"
FILES = sorted(PACKAGE.glob("*.py"))
LIBRARY = ("__future__", "collections", "heapq", "itertools", "math")
# Of each file, the functions and classes that the interface lists under it and that have landed.
INTERFACE = {
    "errors": ["BadText", "BadRow", "BadContent", "BadName", "Unfit", "BadCall", "NoMark", "NoName", "Nameless",
               "Taken", "Known", "Twice", "Clash", "Torn", "Busy", "TooLong"],
    "terms": ["is_mark", "is_term", "deep_of", "size_of", "calls_of", "places_of"],
    "termtext": ["term_text", "term_in"],
    "marks": ["mark_of_text"],
    "groups": ["saying"],
    "contents": ["is_content", "content_text", "content_in", "mark_of", "turned_to", "calls_in"],
    "rings": ["rings_of", "contents_of"],
    "house": ["House"],
    "running": ["ran"],
    "papers": ["paper_of", "shows_value"],
    "rows": ["is_name", "row_in", "row_text"],
    "merging": ["merged", "shows_merged"],
}
# Of each class the methods that the interface lists for it.
METHODS = {
    ("house", "House"): ["put", "content", "has", "marks", "ring", "calls", "called_by", "all_calls", "like",
                         "__len__", "__eq__"],
}


class TestForm(unittest.TestCase):
    def test_the_folder_holds_nothing_but_plain_files(self):
        there = sorted(path.name for path in PACKAGE.iterdir() if path.name != "__pycache__")
        self.assertEqual(there, [path.name for path in FILES])
        self.assertIn("__init__.py", there)

    def test_characters_and_sizes(self):
        for path in FILES:
            text = path.read_text(encoding="utf-8")
            self.assertTrue(all(sign == "\n" or " " <= sign <= "~" for sign in text), path.name)
            self.assertLessEqual(text.count("\n"), 399, path.name)
            self.assertLessEqual(max(len(row) for row in text.splitlines()), 120, path.name)
            for node in ast.walk(ast.parse(text)):
                if isinstance(node, ast.FunctionDef):
                    self.assertLessEqual(node.end_lineno - node.lineno + 1, 40, (path.name, node.name))

    def test_imports_are_of_the_package_by_full_names_or_of_what_the_language_names(self):
        for path in FILES:
            for node in ast.walk(ast.parse(path.read_text(encoding="utf-8"))):
                self.assertNotIsInstance(node, ast.Import, path.name)
                if isinstance(node, ast.ImportFrom):
                    self.assertEqual(node.level, 0, path.name)
                    self.assertTrue(node.module.startswith("contentnames.") or node.module in LIBRARY, path.name)

    def test_each_name_is_defined_where_the_interface_lists_it(self):
        for file, names in INTERFACE.items():
            module = importlib.import_module("contentnames." + file)
            for name in names:
                self.assertEqual(getattr(module, name).__module__, "contentnames." + file)

    def test_each_method_is_defined_in_the_class_itself(self):
        for (file, name), methods in METHODS.items():
            for method in methods:
                self.assertIn(method, vars(getattr(importlib.import_module("contentnames." + file), name)))


if __name__ == "__main__":
    unittest.main()
