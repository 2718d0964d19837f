"""The form of the package's files, as far as a test can easily tell it, and where the interface stands."""

import ast
import importlib
import inspect
import pathlib
import unittest

PACKAGE = pathlib.Path(__file__).resolve().parent.parent / "contentnames"
FILES = sorted(PACKAGE.glob("*.py"))
LIBRARY = ("__future__", "collections", "heapq", "itertools", "math")
# Of each file, the functions and classes that the interface lists under it and that have landed.
INTERFACE = {
    "errors": ["BadText", "BadRow", "BadContent", "BadName", "Unfit", "BadCall", "NoMark", "NoName", "Nameless",
               "Taken", "Known", "Twice", "Clash", "Torn", "Busy", "TooLong"],
    "terms": ["is_mark", "is_term", "deep_of", "size_of", "calls_of", "places_of"],
    "termtext": ["term_text", "term_in"],
    "marks": ["mark_of_text"],
    "groups": ["saying"],
    "contents": ["is_content", "content_text", "content_in", "mark_of", "turned_to", "calls_in"],
    "rings": ["rings_of", "contents_of"],
    "house": ["House"],
    "running": ["ran"],
    "papers": ["paper_of", "shows_value"],
    "rows": ["is_name", "row_in", "row_text"],
    "merging": ["merged", "shows_merged"],
    "book": ["Book"],
    "sharing": ["parcel", "unpacked", "pulled"],
    "deskrows": ["deskrow_in"],
    "desk": ["Desk"],
}
# Of each file, the values that the interface lists under it.
VALUES = {
    "marks": {"SIGNS": "0123456789abcdefghijklmnopqrstuvwxyz #@();:"}, "running": {"LIMIT": 1000},
    "rows": {"ARGS": ("a", "b", "c", "d")}, "merging": {"MINE": "mine", "ITS": "its"}, "desk": {"DEEP": 2},
}
# Of each class the methods that the interface lists for it.
METHODS = {
    ("house", "House"): ["put", "content", "has", "marks", "ring", "calls", "called_by", "all_calls", "like",
                         "__len__", "__eq__"],
    ("book", "Book"): ["tell", "give", "drop", "mark", "names", "names_of", "rows", "undo", "__len__", "like", "update",
                       "branch", "take_in"],
    ("desk", "Desk"): ["ask", "run", "is_open", "log", "house", "book"],
}
# How arguments may be handed in: a star ahead of those that go by their names alone, with what stands there else.
ARGUMENTS = {
    ("running", "ran"): ["house", "mark", "numbers", "*most=1000"],
    ("papers", "paper_of"): ["house", "mark", "numbers", "*most=1000"],
    ("papers", "shows_value"): ["house", "mark", "numbers", "number", "thing"],
    ("rows", "row_text"): ["name", "many", "draft", "*args=('a', 'b', 'c', 'd')"],
    ("merging", "merged"): ["base", "one", "other"],
    ("merging", "shows_merged"): ["base", "one", "other", "thing"],
    ("book", "Book.take_in"): ["self", "branch", "*wins=None"],
    ("sharing", "parcel"): ["house", "marks", "*has=()"],
    ("sharing", "unpacked"): ["house", "contents"],
    ("sharing", "pulled"): ["house", "other", "marks"],
    ("desk", "Desk"): ["*most=1000"],
    ("desk", "Desk.run"): ["self", "rows", "*keep=False", "*deep=2"],
}


class TestForm(unittest.TestCase):
    def test_the_folder_holds_nothing_but_plain_files(self):
        there = sorted(path.name for path in PACKAGE.iterdir() if path.name != "__pycache__")
        self.assertEqual(there, [path.name for path in FILES])
        self.assertIn("__init__.py", there)

    def test_characters_and_sizes(self):
        for path in FILES:
            text = path.read_text(encoding="utf-8")
            self.assertTrue(all(sign == "\n" or " " <= sign <= "~" for sign in text), path.name)
            self.assertLessEqual(text.count("\n"), 399, path.name)
            self.assertLessEqual(max(len(row) for row in text.splitlines()), 120, path.name)
            for node in ast.walk(ast.parse(text)):
                if isinstance(node, ast.FunctionDef):
                    self.assertLessEqual(node.end_lineno - node.lineno + 1, 40, (path.name, node.name))

    def test_imports_are_of_the_package_by_full_names_or_of_what_the_language_names(self):
        for path in FILES:
            for node in ast.walk(ast.parse(path.read_text(encoding="utf-8"))):
                self.assertNotIsInstance(node, ast.Import, path.name)
                if isinstance(node, ast.ImportFrom):
                    self.assertEqual(node.level, 0, path.name)
                    self.assertTrue(node.module.startswith("contentnames.") or node.module in LIBRARY, path.name)

    def test_each_name_is_defined_where_the_interface_lists_it(self):
        for file, names in INTERFACE.items():
            module = importlib.import_module("contentnames." + file)
            for name in names:
                self.assertEqual(getattr(module, name).__module__, "contentnames." + file)

    def test_each_method_is_defined_in_the_class_itself(self):
        for (file, name), methods in METHODS.items():
            for method in methods:
                self.assertIn(method, vars(getattr(importlib.import_module("contentnames." + file), name)))

    def test_values(self):
        for file, values in VALUES.items():
            for name, value in values.items():
                there = vars(importlib.import_module("contentnames." + file))[name]
                self.assertEqual((there, type(there)), (value, type(value)), name)

    def test_arguments(self):
        for (file, name), told in ARGUMENTS.items():
            thing = importlib.import_module("contentnames." + file)
            for part in name.split("."):
                thing = getattr(thing, part)
            there = []
            for argument in inspect.signature(thing).parameters.values():
                alone = argument.kind == inspect.Parameter.KEYWORD_ONLY
                default = "" if argument.default is inspect.Parameter.empty else f"={argument.default!r}"
                there.append("*" * alone + argument.name + default)
            self.assertEqual(there, told, name)


if __name__ == "__main__":
    unittest.main()
