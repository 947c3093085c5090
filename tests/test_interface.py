"""The interface: names, files, parameters, and methods in their own classes."""

import ast
import importlib
import inspect
import re
import unittest
from pathlib import Path

from selfdrawn import errors
from selfdrawn.books import Book
from selfdrawn.desk import Desk
from selfdrawn.pictures import Picture
from selfdrawn.programs import Program

PACKAGE = Path(__file__).resolve().parent.parent / "selfdrawn"
FUNCTIONS = {
    ("motions", "joint_motion"): ["sides", "one", "other"],
    ("motions", "back_motion"): ["sides", "one"],
    ("motions", "point_under"): ["sides", "motion", "point"],
    ("motions", "cell_under"): ["sides", "size", "motion", "cell"],
    ("books", "drawn_cells"): ["book", "name", "depth"],
    ("pictures", "picture_from"): ["sides", "base", "form"],
    ("pictures", "empty_picture"): ["sides", "base"],
    ("pictures", "whole_picture"): ["sides", "base"],
    ("pictures", "single_point"): ["base", "point"],
    ("pictures", "picture_text"): ["picture"],
    ("pictures", "content_at"): ["picture", "depth", "cell"],
    ("points", "place_of"): ["base", "fraction"],
    ("points", "fraction_of"): ["base", "place"],
    ("points", "has_point"): ["picture", "point"],
    ("points", "point_cells"): ["base", "depth", "point"],
    ("points", "first_point"): ["picture"],
    ("points", "last_point"): ["picture"],
    ("points", "bounding_box"): ["picture"],
    ("beside", "is_within"): ["one", "other"],
    ("beside", "meeting_place"): ["one", "other"],
    ("beside", "symmetries_of"): ["picture"],
    ("making", "turned_picture"): ["picture", "motion"],
    ("making", "joined_pictures"): ["one", "other"],
    ("making", "met_pictures"): ["one", "other"],
    ("making", "put_together"): ["pictures"],
    ("making", "parts_of"): ["picture"],
    ("making", "crossed_lines"): ["one", "other"],
    ("making", "other_base"): ["picture"],
    ("scaling", "lesser_picture"): ["picture", "many", "cell"],
    ("scaling", "zoomed_picture"): ["picture", "many", "cell"],
    ("moves", "moved_picture"): ["picture", "by"],
    ("shadows", "shadow_of"): ["picture", "axis"],
    ("shadows", "slanted_shadow"): ["picture", "p", "q"],
    ("cuts", "cut_at"): ["picture", "axis", "at"],
    ("cuts", "slanted_cut"): ["picture", "p", "q", "at"],
    ("counts", "count_cells"): ["picture", "depth", "low", "high"],
    ("counts", "area_of"): ["picture"],
    ("counts", "how_many"): ["picture"],
    ("counts", "all_points"): ["picture"],
    ("pieces", "touching_point"): ["one", "other", "offset"],
    ("pieces", "one_pieces"): ["book"],
    ("pieces", "piece_count"): ["picture", "depth"],
    ("inside", "left_picture"): ["one", "other"],
    ("inside", "outside_of"): ["picture"],
    ("inside", "edge_of"): ["picture"],
    ("inside", "solid_part"): ["picture"],
    ("inside", "inside_cell"): ["picture"],
    ("inks", "ink_at"): ["pictures", "point"],
    ("inks", "unseen_inks"): ["pictures"],
    ("inks", "inks_in"): ["pictures", "depth", "cell"],
    ("inks", "same_inks"): ["one", "other"],
    ("inks", "exchange_seen"): ["pictures", "number"],
    ("programs", "worked_out"): ["program", "pictures"],
    ("programs", "point_made"): ["program", "lots", "point"],
    ("forall", "needs_at"): ["program", "point"],
    ("forall", "same_program"): ["one", "other"],
    ("forall", "shows_parts"): ["one", "other", "value"],
    ("forall", "needless_inputs"): ["program"],
    ("journals", "journal"): ["desk"],
    ("journals", "read_journal"): ["text"],
}
# The methods of a desk, with the parameters behind the desk itself.
DESK_METHODS = {
    "draw": ["name", "words"],
    "change": ["name", "cell", "word"],
    "let": ["name", "line"],
    "remove": ["name"],
    "deed": ["text"],
    "entry": ["name"],
    "picture": ["name"],
    "hanging": ["name"],
    "program": ["name"],
    "back": ["many"],
    "on": ["many"],
    "mark": ["name"],
    "to": ["name"],
    "tried": ["look", "keep"],
    "copy": [],
}
# For each class its file, the parameters with which it is called, and the methods that stand in it.
CLASSES = {
    Book: ("books", ["text"], ["__init__", "__len__", "__contains__", "__eq__"]),
    Picture: ("pictures", ["book", "name"], ["__init__", "__len__", "__eq__"]),
    Program: ("programs", ["text"], ["__init__", "__len__", "__eq__"]),
    Desk: ("desk", ["base"], ["__init__", "__len__", "__contains__", "__eq__", *DESK_METHODS]),
}
# One object of each class, with the attributes that are listed for it.
OBJECTS = (
    (Book("line 2\nkind a\na ."), ("text", "sides", "base", "names", "blocks")),
    (Picture(Book("line 2\nkind a\na ."), "a"), ("sides", "base", "form")),
    (Program("r = turned a 1"), ("text", "inputs", "steps")),
    (Desk(2), ("base", "kinds", "lines", "deeds", "place", "marks")),
)


def defined_in(module):
    """The names of the functions and classes that a file defines at its top."""
    tree = ast.parse((PACKAGE / f"{module}.py").read_text())
    return [part.name for part in tree.body if isinstance(part, (ast.FunctionDef, ast.ClassDef))]


class InterfaceTest(unittest.TestCase):

    def test_functions_stand_in_their_files(self):
        for module, name in FUNCTIONS:
            self.assertIn(name, defined_in(module))

    def test_classes_stand_in_their_files(self):
        for kind, (module, parameters, _) in CLASSES.items():
            self.assertIn(kind.__name__, defined_in(module))
            self.assertEqual(list(inspect.signature(kind).parameters), parameters)

    def test_parameters_have_the_names_that_the_document_gives(self):
        for (module, name), parameters in FUNCTIONS.items():
            function = getattr(importlib.import_module(f"selfdrawn.{module}"), name)
            self.assertEqual(list(inspect.signature(function).parameters), parameters)

    def test_methods_stand_in_their_own_class(self):
        for kind, (_, _, methods) in CLASSES.items():
            for method in methods:
                self.assertIn(method, vars(kind))

    def test_methods_of_a_desk_have_the_parameters_that_the_document_gives(self):
        for name, parameters in DESK_METHODS.items():
            self.assertEqual(list(inspect.signature(vars(Desk)[name]).parameters)[1:], parameters)
        keep = inspect.signature(Desk.tried).parameters["keep"]
        self.assertEqual((keep.kind, keep.default), (inspect.Parameter.KEYWORD_ONLY, False))

    def test_attributes_are_set_when_an_object_is_created(self):
        for thing, names in OBJECTS:
            self.assertLessEqual(set(names), set(vars(thing)))

    def test_all_names_of_the_document(self):
        text = (PACKAGE.parent.parent / "shared" / "DOC.md")
        told = text.read_text().split("# The interface")[1] if text.exists() else ""
        for line in told.split("\n"):
            if line.startswith("- selfdrawn/"):
                module, names = line[len("- selfdrawn/"):].split(".py: ")
                flat = re.sub(r" \([^)]*\)", "", names.rstrip("."))
                for name in flat.split(", "):
                    self.assertIn(name, defined_in(module))

    def test_all_errors_derive_directly_from_draw_error(self):
        names = [name for name in defined_in("errors") if name != "DrawError"]
        self.assertEqual(len(names), 36)
        for name in names:
            self.assertEqual(getattr(errors, name).__bases__, (errors.DrawError,))
        self.assertEqual(errors.DrawError.__bases__, (ValueError,))
