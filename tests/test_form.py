"""The form of the package: its files, sizes, signs and imports, and that the interface stands where it is listed."""

import ast
import importlib
import inspect
import os
import unittest

PACKAGE = os.path.join(os.path.dirname(os.path.dirname(os.path.abspath(__file__))), "squarethreads")
INTERFACE = {
    "errors": (
        "ThreadError", "InvalidBook", "InvalidKind", "InvalidDepth", "InvalidCell", "InvalidNumber", "InvalidBox",
        "InvalidPosture", "InvalidPair", "InvalidField", "InvalidPicture", "InvalidMake", "InvalidStore",
        "InvalidName", "UnknownName", "NothingToUndo", "Unreadable", "Unorderly",
    ),
    "books": ("is_book", "begun_at", "least", "turned", "backward", "postures"),
    "threads": ("number_of", "cell_of", "kinds_on", "thread", "first_cell", "last_cell", "whole"),
    "paths": ("is_path", "is_path_at", "first_leap", "is_ring", "leaps", "ends"),
    "growth": ("sums", "rule", "sum_at"),
    "fields": ("is_field", "field_number", "field_cell", "is_path_field", "first_leap_of", "row_field"),
    "drawings": ("drawn", "numbers_drawn"),
    "spans": ("spans", "how_many", "cells_in", "next_in", "last_in", "at_most"),
    "gaps": ("gap", "greatest_gap", "widest", "gap_sum"),
    "alikes": ("unlike", "alike_in", "same_kinds"),
    "makers": ("is_picture", "is_make", "made", "goes_on", "makes", "how_many_makes"),
    "stores": ("is_store", "store_of", "in_box", "asked", "leapt", "nearest"),
    "consoles": ("Console",),
    "texts": ("show_book", "show_cell", "show_box", "show_spans", "show_field", "show_make"),
    "readers": ("read_book", "read_cell", "read_box", "read_spans", "read_field", "read_make"),
}
LIBRARY = {"heapq", "math", "itertools", "collections"}


def sources():
    """Name and text of each file of the package."""
    for name in sorted(os.listdir(PACKAGE)):
        if name != "__pycache__":
            with open(os.path.join(PACKAGE, name), encoding="utf-8", newline="") as file:
                yield name, file.read()


class Form(unittest.TestCase):
    def test_files_and_signs(self):
        for name, text in sources():
            self.assertRegex(name, r"\A[a-z_]+\.py\Z")
            self.assertEqual({sign for sign in text if sign != "\n" and not " " <= sign <= "~"}, set(), name)
            lines = text.split("\n")
            self.assertLessEqual(len(lines), 399, name)
            self.assertLessEqual(max(len(line) for line in lines), 120, name)

    def test_lengths_and_docstrings(self):
        for name, text in sources():
            for node in ast.walk(ast.parse(text)):
                if isinstance(node, ast.FunctionDef):
                    self.assertLessEqual(node.end_lineno - node.lineno + 1, 40, f"{name} {node.name}")
                    self.assertTrue(ast.get_docstring(node) or node.name == "__init__", node.name)

    def test_imports(self):
        for name, text in sources():
            for node in ast.walk(ast.parse(text)):
                self.assertNotIsInstance(node, ast.Import, name)
                if isinstance(node, ast.ImportFrom):
                    self.assertEqual(node.level, 0, name)
                    self.assertTrue(node.module in LIBRARY or node.module.startswith("squarethreads."), name)

    def test_no_floats_and_no_writing_out(self):
        for name, text in sources():
            for node in ast.walk(ast.parse(text)):
                self.assertNotIsInstance(node, (ast.Div, ast.Global, ast.AsyncFunctionDef), name)
                if isinstance(node, ast.Constant):
                    self.assertNotIsInstance(node.value, (float, complex), name)
                if isinstance(node, ast.Name):
                    self.assertNotIn(node.id, ("print", "open", "input", "eval", "exec", "globals", "vars"), name)

    def test_interface_is_defined_in_its_files(self):
        for name, told in INTERFACE.items():
            module = importlib.import_module(f"squarethreads.{name}")
            for word in told:
                self.assertEqual(getattr(module, word).__module__, module.__name__)
            with open(inspect.getsourcefile(module), encoding="utf-8") as file:
                defined = [node.name for node in ast.parse(file.read()).body if hasattr(node, "name")]
            self.assertEqual([word for word in told if word not in defined], [])
            self.assertEqual(len(defined), len(set(defined)))

    def test_methods_are_defined_in_their_class(self):
        told = importlib.import_module("squarethreads.consoles").Console
        for word in ("keep", "drop", "undo", "book", "names", "order"):
            self.assertIn(word, vars(told))
        parameters = [list(inspect.signature(vars(told)[word]).parameters)[1:] for word in ("keep", "drop", "undo", "book",
                                                                                        "names", "order")]
        self.assertEqual(parameters, [["name", "book"], ["name"], [], ["name"], [], ["text"]])


if __name__ == "__main__":
    unittest.main()
