"""The interface: names, files, parameters, and methods in their own classes."""

import ast
import importlib
import inspect
import unittest
from pathlib import Path

from selfdrawn.books import Book
from selfdrawn.pictures import Picture

PACKAGE = Path(__file__).resolve().parent.parent / "selfdrawn"
FUNCTIONS = {
    ("motions", "joint_motion"): ["sides", "one", "other"],
    ("motions", "back_motion"): ["sides", "one"],
    ("motions", "point_under"): ["sides", "motion", "point"],
    ("motions", "cell_under"): ["sides", "size", "motion", "cell"],
    ("books", "drawn_cells"): ["book", "name", "depth"],
    ("pictures", "picture_from"): ["sides", "base", "form"],
    ("pictures", "empty_picture"): ["sides", "base"],
    ("pictures", "whole_picture"): ["sides", "base"],
    ("pictures", "single_point"): ["base", "point"],
    ("pictures", "picture_text"): ["picture"],
    ("pictures", "content_at"): ["picture", "depth", "cell"],
    ("points", "place_of"): ["base", "fraction"],
    ("points", "fraction_of"): ["base", "place"],
    ("points", "has_point"): ["picture", "point"],
    ("points", "point_cells"): ["base", "depth", "point"],
    ("points", "first_point"): ["picture"],
    ("points", "last_point"): ["picture"],
    ("points", "bounding_box"): ["picture"],
    ("beside", "is_within"): ["one", "other"],
    ("beside", "meeting_place"): ["one", "other"],
    ("beside", "symmetries_of"): ["picture"],
    ("making", "turned_picture"): ["picture", "motion"],
    ("making", "joined_pictures"): ["one", "other"],
    ("making", "met_pictures"): ["one", "other"],
    ("making", "put_together"): ["pictures"],
    ("making", "parts_of"): ["picture"],
    ("making", "crossed_lines"): ["one", "other"],
    ("making", "other_base"): ["picture"],
    ("scaling", "lesser_picture"): ["picture", "many", "cell"],
    ("scaling", "zoomed_picture"): ["picture", "many", "cell"],
    ("moves", "moved_picture"): ["picture", "by"],
    ("shadows", "shadow_of"): ["picture", "axis"],
    ("shadows", "slanted_shadow"): ["picture", "p", "q"],
    ("cuts", "cut_at"): ["picture", "axis", "at"],
    ("cuts", "slanted_cut"): ["picture", "p", "q", "at"],
    ("counts", "count_cells"): ["picture", "depth", "low", "high"],
    ("counts", "area_of"): ["picture"],
    ("counts", "how_many"): ["picture"],
    ("counts", "all_points"): ["picture"],
    ("pieces", "touching_point"): ["one", "other", "offset"],
    ("pieces", "one_pieces"): ["book"],
    ("pieces", "piece_count"): ["picture", "depth"],
    ("inside", "left_picture"): ["one", "other"],
    ("inside", "outside_of"): ["picture"],
    ("inside", "edge_of"): ["picture"],
    ("inside", "solid_part"): ["picture"],
    ("inside", "inside_cell"): ["picture"],
    ("inks", "ink_at"): ["pictures", "point"],
    ("inks", "unseen_inks"): ["pictures"],
    ("inks", "inks_in"): ["pictures", "depth", "cell"],
    ("inks", "same_inks"): ["one", "other"],
    ("inks", "exchange_seen"): ["pictures", "number"],
}
# For each class its file, the parameters with which it is called, and the methods that stand in it.
CLASSES = {
    Book: ("books", ["text"], ["__init__", "__len__", "__contains__", "__eq__"]),
    Picture: ("pictures", ["book", "name"], ["__init__", "__len__", "__eq__"]),
}


def defined_in(module):
    """The names of the functions and classes that a file defines at its top."""
    tree = ast.parse((PACKAGE / f"{module}.py").read_text())
    return [part.name for part in tree.body if isinstance(part, (ast.FunctionDef, ast.ClassDef))]


class InterfaceTest(unittest.TestCase):

    def test_functions_stand_in_their_files(self):
        for module, name in FUNCTIONS:
            self.assertIn(name, defined_in(module))

    def test_classes_stand_in_their_files(self):
        for kind, (module, parameters, _) in CLASSES.items():
            self.assertIn(kind.__name__, defined_in(module))
            self.assertEqual(list(inspect.signature(kind).parameters), parameters)

    def test_parameters_have_the_names_that_the_document_gives(self):
        for (module, name), parameters in FUNCTIONS.items():
            function = getattr(importlib.import_module(f"selfdrawn.{module}"), name)
            self.assertEqual(list(inspect.signature(function).parameters), parameters)

    def test_methods_stand_in_their_own_class(self):
        for kind, (_, _, methods) in CLASSES.items():
            for method in methods:
                self.assertIn(method, vars(kind))
