"""The interface: names, files, parameters, and methods in their own classes."""

import ast
import importlib
import inspect
import unittest
from pathlib import Path

from selfdrawn.books import Book

PACKAGE = Path(__file__).resolve().parent.parent / "selfdrawn"
FUNCTIONS = {
    ("motions", "joint_motion"): ["sides", "one", "other"],
    ("motions", "back_motion"): ["sides", "one"],
    ("motions", "point_under"): ["sides", "motion", "point"],
    ("motions", "cell_under"): ["sides", "size", "motion", "cell"],
    ("books", "drawn_cells"): ["book", "name", "depth"],
}


def defined_in(module):
    """The names of the functions and classes that a file defines at its top."""
    tree = ast.parse((PACKAGE / f"{module}.py").read_text())
    return [part.name for part in tree.body if isinstance(part, (ast.FunctionDef, ast.ClassDef))]


class InterfaceTest(unittest.TestCase):

    def test_functions_stand_in_their_files(self):
        for module, name in FUNCTIONS:
            self.assertIn(name, defined_in(module))

    def test_book_stands_in_its_file(self):
        self.assertIn("Book", defined_in("books"))
        self.assertEqual(list(inspect.signature(Book).parameters), ["text"])

    def test_parameters_have_the_names_that_the_document_gives(self):
        for (module, name), parameters in FUNCTIONS.items():
            function = getattr(importlib.import_module(f"selfdrawn.{module}"), name)
            self.assertEqual(list(inspect.signature(function).parameters), parameters)

    def test_methods_stand_in_their_own_class(self):
        for method in ("__init__", "__len__", "__contains__", "__eq__"):
            self.assertIn(method, vars(Book))
