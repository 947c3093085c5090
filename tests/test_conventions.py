"""Section 2: arguments by position and by name, nothing changed, equal results of equal calls."""

import unittest
from copy import deepcopy

from selfdrawn.beside import is_within, meeting_place, symmetries_of
from selfdrawn.books import Book, drawn_cells
from selfdrawn.counts import all_points, area_of, count_cells, how_many
from selfdrawn.cuts import cut_at, slanted_cut
from selfdrawn.desk import Desk
from selfdrawn.forall import needless_inputs, needs_at, same_program, shows_parts
from selfdrawn.inks import exchange_seen, ink_at, inks_in, same_inks, unseen_inks
from selfdrawn.inside import edge_of, inside_cell, left_picture, outside_of, solid_part
from selfdrawn.journals import journal, read_journal
from selfdrawn.making import (
    crossed_lines, joined_pictures, met_pictures, other_base, parts_of, put_together, turned_picture,
)
from selfdrawn.motions import back_motion, cell_under, joint_motion, point_under
from selfdrawn.moves import moved_picture
from selfdrawn.pictures import (
    Picture, content_at, empty_picture, picture_from, picture_text, single_point, whole_picture,
)
from selfdrawn.pieces import one_pieces, piece_count, touching_point
from selfdrawn.points import (
    bounding_box, first_point, fraction_of, has_point, last_point, place_of, point_cells,
)
from selfdrawn.programs import Program, point_made, worked_out
from selfdrawn.scaling import lesser_picture, zoomed_picture
from selfdrawn.shadows import shadow_of, slanted_shadow
from tests.helpers import error_of

TEXT = "plane 2\nkind a\na b/4\n. #\nkind b\n# .\n. a"
SIEVE = Picture(Book("plane 2\nkind a\na .\na a"), "a")
HOOK = Picture(Book("plane 2\nkind a\n. a/1\n# ."), "a")
DUST = Picture(Book("line 3\nkind a\na . a"), "a")
HALF = Picture(Book("line 3\nkind a\n# . ."), "a")
FEW = joined_pictures(single_point(3, ((1, 3),)), single_point(3, ((1, 2),)))
POINT = ((1, 4), (2, 3))
LINES = "r = turned a 1\ns = joined r b"
DESK = read_journal("desk 2\ndraw p p . . .\nlet q turned p 2\nplace 1\nmark a\ndraw x # . . #")
CALLS = (
    (joint_motion, ("sides", "one", "other"), (2, 1, 4)),
    (back_motion, ("sides", "one"), (2, 1)),
    (point_under, ("sides", "motion", "point"), (2, 1, ((1, 4), (0, 1)))),
    (cell_under, ("sides", "size", "motion", "cell"), (2, 4, 3, (0, 1))),
    (drawn_cells, ("book", "name", "depth"), (Book(TEXT), "a", 2)),
    (Book, ("text",), (TEXT,)),
    (Picture, ("book", "name"), (Book(TEXT), "a")),
    (picture_from, ("sides", "base", "form"), (2, 2, SIEVE.form)),
    (empty_picture, ("sides", "base"), (2, 3)),
    (whole_picture, ("sides", "base"), (1, 4)),
    (single_point, ("base", "point"), (3, POINT)),
    (picture_text, ("picture",), (SIEVE,)),
    (content_at, ("picture", "depth", "cell"), (SIEVE, 3, (1, 6))),
    (place_of, ("base", "fraction"), (2, (5, 12))),
    (fraction_of, ("base", "place"), (2, ((0, 1), (1, 0)))),
    (has_point, ("picture", "point"), (SIEVE, POINT)),
    (point_cells, ("base", "depth", "point"), (2, 3, POINT)),
    (first_point, ("picture",), (HOOK,)),
    (last_point, ("picture",), (HOOK,)),
    (bounding_box, ("picture",), (HOOK,)),
    (is_within, ("one", "other"), (SIEVE, HOOK)),
    (meeting_place, ("one", "other"), (SIEVE, HOOK)),
    (symmetries_of, ("picture",), (SIEVE,)),
    (turned_picture, ("picture", "motion"), (HOOK, 3)),
    (joined_pictures, ("one", "other"), (SIEVE, HOOK)),
    (met_pictures, ("one", "other"), (SIEVE, HOOK)),
    (put_together, ("pictures",), ((DUST, HALF, DUST),)),
    (parts_of, ("picture",), (HOOK,)),
    (crossed_lines, ("one", "other"), (DUST, HALF)),
    (other_base, ("picture",), (HOOK,)),
    (lesser_picture, ("picture", "many", "cell"), (SIEVE, 3, (1, 2))),
    (zoomed_picture, ("picture", "many", "cell"), (SIEVE, 3, (1, 2))),
    (moved_picture, ("picture", "by"), (SIEVE, ((1, 3), (-1, 4)))),
    (shadow_of, ("picture", "axis"), (HOOK, 1)),
    (slanted_shadow, ("picture", "p", "q"), (HOOK, 1, 2)),
    (cut_at, ("picture", "axis", "at"), (HOOK, 0, (1, 3))),
    (slanted_cut, ("picture", "p", "q", "at"), (HOOK, -1, 2, (3, 4))),
    (count_cells, ("picture", "depth", "low", "high"), (HOOK, 4, (1, 2), (13, 15))),
    (area_of, ("picture",), (HOOK,)),
    (how_many, ("picture",), (FEW,)),
    (all_points, ("picture",), (FEW,)),
    (touching_point, ("one", "other", "offset"), (SIEVE, HOOK, (1, 0))),
    (one_pieces, ("book",), (Book(TEXT),)),
    (piece_count, ("picture", "depth"), (HOOK, 3)),
    (left_picture, ("one", "other"), (SIEVE, HOOK)),
    (outside_of, ("picture",), (HOOK,)),
    (edge_of, ("picture",), (HOOK,)),
    (solid_part, ("picture",), (HOOK,)),
    (inside_cell, ("picture",), (HOOK,)),
    (ink_at, ("pictures", "point"), ((SIEVE, HOOK), POINT)),
    (unseen_inks, ("pictures",), ((SIEVE, HOOK, SIEVE),)),
    (inks_in, ("pictures", "depth", "cell"), ((SIEVE, HOOK), 2, (1, 2))),
    (same_inks, ("one", "other"), ((SIEVE, HOOK), (HOOK, SIEVE))),
    (exchange_seen, ("pictures", "number"), ((SIEVE, HOOK), 0)),
    (Program, ("text",), (LINES,)),
    (worked_out, ("program", "pictures"), (Program(LINES), (SIEVE, HOOK))),
    (point_made, ("program", "lots", "point"), (Program(LINES), ((POINT,), ()), POINT)),
    (needs_at, ("program", "point"), (Program(LINES), POINT)),
    (same_program, ("one", "other"), (Program(LINES), Program("r = met a b"))),
    (shows_parts, ("one", "other", "value"), (Program(LINES), Program("r = met a b"), ("parts", ((POINT,), ()), POINT))),
    (needless_inputs, ("program",), (Program(LINES),)),
    (Desk, ("base",), (3,)),
    (journal, ("desk",), (DESK,)),
    (read_journal, ("text",), (journal(DESK),)),
)
# The parameters that are always books, pictures, programs or desks, and one that may be any value.
HELD = ("book", "picture", "one", "other", "program", "desk", "value")
# What these refuse is told by the number of a line.
TEXTS = (Book, Program, read_journal)


class ArgumentsTest(unittest.TestCase):

    def test_by_name(self):
        for call, names, values in CALLS:
            told = call(*values)
            self.assertEqual(call(**dict(zip(names, values))), told)
            self.assertEqual(call(**dict(reversed(list(zip(names, values))))), told)
            self.assertEqual(call(values[0], **dict(zip(names[1:], values[1:]))), told)

    def test_errors_by_name_too(self):
        self.assertEqual(error_of(cell_under, cell=None, motion=9, size=0, sides=2).value, 0)
        self.assertEqual(error_of(drawn_cells, depth=9, name="c", book=Book(TEXT)).value, "c")
        self.assertEqual(error_of(joint_motion, other=9, one=8, sides=2).value, 8)

    def test_equal_calls_return_equal_results(self):
        for call, _, values in CALLS:
            first = call(*values)
            self.assertEqual(call(*values), first)
            self.assertEqual(call(*deepcopy(values)), first)

    def test_arguments_that_are_exchanged_by_name(self):
        for call in (is_within, crossed_lines, joined_pictures):
            one, other = (DUST, HALF) if call is crossed_lines else (SIEVE, HOOK)
            self.assertEqual(call(other=one, one=other), call(other, one))
        self.assertNotEqual(is_within(other=SIEVE, one=HOOK), is_within(SIEVE, HOOK))
        self.assertEqual(slanted_shadow(q=1, p=2, picture=HOOK), slanted_shadow(HOOK, 2, 1))

    def test_equal_books_draw_the_same(self):
        for name in ("a", "b"):
            for depth in range(6):
                self.assertEqual(drawn_cells(Book(TEXT), name, depth), drawn_cells(Book(TEXT), name, depth))


class UnchangedTest(unittest.TestCase):

    def test_books_are_not_changed(self):
        book = Book(TEXT)
        held = deepcopy(vars(book))
        drawn_cells(book, "a", 5)
        drawn_cells(book, "b", 0)
        error_of(drawn_cells, book, "c", 1)
        error_of(drawn_cells, book, "a", 6)
        self.assertEqual((len(book), "a" in book, book == Book(TEXT)), (2, True, True))
        self.assertEqual(vars(book), held)

    def test_pictures_are_not_changed(self):
        pictures = (SIEVE, HOOK, DUST, HALF)
        held = [deepcopy(vars(picture)) for picture in pictures]
        for call, _, values in CALLS:
            call(*values)
        self.assertEqual([vars(picture) for picture in pictures], held)
        for picture in pictures:
            for call, names, values in CALLS:
                if names[0] == "picture" and len(names) > 1:
                    self.assertIsNotNone(error_of(call, picture, *([None] * (len(names) - 1))))
        self.assertEqual([vars(picture) for picture in pictures], held)

    def test_programs_and_desks_that_are_asked_are_not_changed(self):
        program, desk = Program(LINES), DESK.copy()
        held, text = deepcopy(vars(program)), journal(desk)
        for call, names, values in CALLS:
            if names[0] == "program":
                call(program, *values[1:])
                if len(names) > 1:
                    self.assertIsNotNone(error_of(call, program, *([None] * (len(names) - 1))))
        for call in (desk.entry, desk.picture, desk.hanging, desk.program):
            self.assertIsNotNone(error_of(call, "no"))
        self.assertEqual([desk.entry("p"), desk.hanging("p"), desk.picture("p") == desk.picture("p")], [("p", ".", ".", "."), ("p",), True])
        self.assertEqual((vars(program), journal(desk), desk == DESK), (held, text, True))

    def test_methods_return_none_if_nothing_else_is_said(self):
        desk = Desk(2)
        told = [
            desk.draw("p", ("p", ".", ".", ".")), desk.let("q", "turned p 1"), desk.change("p", (0, 0), "."), desk.remove("q"),
            desk.deed("remove p"), desk.mark("a"), desk.back(2), desk.on(1), desk.to("a"),
        ]
        self.assertEqual(told, [None] * 9)

    def test_refused_arguments_are_not_changed(self):
        for value in ([1, [2]], {"a": [1]}, ([1], [2]), [[0, 1], [1, 2]]):
            held = deepcopy(value)
            for call, names, values in CALLS:
                for place, name in enumerate(names):
                    if name not in HELD or type(values[place]) is int:
                        told = error_of(call, *values[:place], value, *values[place + 1:])
                        self.assertIsNotNone(told, (call, place))
                        self.assertIs(told.value, 0 if call in TEXTS else value)
            self.assertEqual(value, held)

    def test_results_are_new_ones(self):
        whole = whole_picture(2, 2)
        whole.form = ()
        self.assertEqual(whole_picture(2, 2).form, ((0, 0, 0, 0),))
        parts = parts_of(SIEVE)
        parts[0].form = ()
        self.assertEqual(parts_of(SIEVE)[0], SIEVE)
