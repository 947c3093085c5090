"""Section 3 over the whole program: one picture that comes in many ways, and all that is told of it."""

import random
import unittest
from itertools import product

from selfdrawn.beside import is_within, meeting_place, symmetries_of
from selfdrawn.books import Book
from selfdrawn.counts import area_of, count_cells, how_many
from selfdrawn.cuts import cut_at
from selfdrawn.desk import Desk
from selfdrawn.inks import same_inks, unseen_inks
from selfdrawn.inside import edge_of, inside_cell, left_picture, outside_of, solid_part
from selfdrawn.journals import journal, read_journal
from selfdrawn.making import joined_pictures, met_pictures, other_base, parts_of, put_together, turned_picture
from selfdrawn.motions import back_motion
from selfdrawn.moves import moved_picture
from selfdrawn.pictures import Picture, content_at, empty_picture, picture_from, picture_text, whole_picture
from selfdrawn.pieces import piece_count
from selfdrawn.points import bounding_box, first_point, has_point, last_point
from selfdrawn.programs import Program, worked_out
from selfdrawn.scaling import lesser_picture, zoomed_picture
from selfdrawn.shadows import shadow_of
from tests.helpers import TABLES
from tests.samples import KINDS, SMALL, sample_pictures, some_points, written
from tests.slow_programs import needs, some_programs


def by_desk(picture):
    """The picture of a plane drawn on a desk from its text, kind by kind; None if the text has too many kinds."""
    kinds = picture_text(picture).split("\nkind ")[1:]
    if len(kinds) > 12:
        return None
    desk = Desk(picture.base)
    for kind in kinds:
        desk.draw(kind.split("\n")[0], (".",) * picture.base ** 2)
    for kind in kinds:
        name, *rows = kind.split("\n")
        desk.draw(name, tuple(" ".join(rows).split(" ")))
    return read_journal(journal(desk)).picture("a")


def by_programs(picture):
    """The picture of a plane made out of itself by programs that come back to it."""
    quarters = "\n".join(f"r = zoomed a 2 {column} {row}\ns = lesser r 2 {column} {row}" for column, row in ((0, 0), (1, 0)))
    texts = (
        "r = turned a 1\nr = turned r 3", "r = lesser a 3 1 2\nr = zoomed r 3 1 2", "r = joined a a\ns = met r a",
        "r = turned a 0", f"{quarters}\nt = joined a s", "b = lesser a 2 1 1\nb = moved b -1/2 -1/2\nb = zoomed b 2 0 0",
    )
    return [worked_out(Program(text), (picture,)) for text in texts]


def roads(picture):
    """The same picture, made in many ways."""
    sides, base = picture.sides, picture.base
    found = [
        Picture(Book(picture_text(picture)), "a"), picture_from(sides, base, picture.form), put_together(parts_of(picture)),
        put_together(tuple(content_at(picture, 1, cell[::-1]) for cell in product(range(base), repeat=sides))),
        moved_picture(picture, ((0, 1),) * sides), joined_pictures(picture, picture), met_pictures(picture, whole_picture(sides, base)),
        left_picture(picture, empty_picture(sides, base)), joined_pictures(solid_part(picture), edge_of(picture)),
    ]
    for motion in range(len(TABLES[sides])):
        found.append(turned_picture(turned_picture(picture, motion), back_motion(sides, motion)))
    for many in range(1, 5):
        cell = (many - 1,) * sides
        found.append(zoomed_picture(lesser_picture(picture, many, cell), many, cell))
    if base != 3:
        found.append(other_base(other_base(picture)))
    if sides == 2:
        found += by_programs(picture)
        drawn = by_desk(picture)
        found += [drawn] if drawn is not None else []
    return found


def all_told(picture):
    """Much of what can be told of a picture."""
    sides, base = picture.sides, picture.base
    size = base ** 5
    return (
        sides, base, picture.form, len(picture), picture_text(picture), first_point(picture), last_point(picture), bounding_box(picture),
        symmetries_of(picture), area_of(picture), how_many(picture), inside_cell(picture), piece_count(picture, 2),
        count_cells(picture, 5, (1,) * sides, (size - 1,) * sides), outside_of(picture).form, edge_of(picture).form,
        meeting_place(picture, picture), unseen_inks((picture, picture)),
    )


class RoadsTest(unittest.TestCase):

    def test_one_picture_in_many_ways(self):
        desks = 0
        for sides, base in KINDS:
            for picture in sample_pictures(sides, base, 2, 20):
                told = all_told(picture)
                for made in roads(picture):
                    self.assertIsInstance(made, Picture)
                    self.assertEqual(made, picture)
                    self.assertEqual(made.form, picture.form)
                    self.assertEqual(all_told(made), told)
                    self.assertEqual(is_within(made, picture), ("within",))
                    self.assertEqual(same_inks((made,), (picture, made)), ("same",))
                desks += sides == 2 and by_desk(picture) is not None
        self.assertGreater(desks, 6)

    def test_moving_back(self):
        for sides, base in KINDS:
            for picture in sample_pictures(sides, base, 2, 10):
                small = lesser_picture(picture, 2, (0,) * sides)
                there = moved_picture(small, ((1, 3),) * sides)
                self.assertEqual(moved_picture(there, ((-1, 3),) * sides), small)
                self.assertEqual(zoomed_picture(moved_picture(small, ((1, 2),) * sides), 2, (1,) * sides), picture)

    def test_points_come_from_the_points_of_which_they_are_made(self):
        draw = random.Random(440)
        for base in (2, 3, 4):
            pictures = sample_pictures(2, base, 2, 8)
            for program in some_programs(draw, 12, 3, 2):
                chosen = dict(zip(program.inputs, [draw.choice(pictures) for _ in program.inputs]))
                made = worked_out(program, tuple(chosen[name] for name in program.inputs))
                for point in some_points(draw, 2, 12, SMALL):
                    sets = needs(program.text, point)
                    lows = [number.denominator for pairs in sets for _, place in pairs for number in place]
                    if max(lows, default=1) <= 60:
                        told = any(all(has_point(chosen[name], written(place)) for name, place in pairs) for pairs in sets)
                        self.assertEqual(has_point(made, written(point)), told, (program.text, point))

    def test_motions_go_along(self):
        for base in (2, 3, 4):
            for picture in sample_pictures(2, base, 1, 12):
                turned = turned_picture(picture, 7)
                self.assertEqual(shadow_of(turned, 0), shadow_of(picture, 1))
                self.assertEqual(cut_at(turned, 0, (1, 3)), cut_at(picture, 1, (1, 3)))
                for motion in range(8):
                    made = turned_picture(picture, motion)
                    told = [area_of(made), how_many(made), piece_count(made, 2), len(symmetries_of(made)), inside_cell(made)[:2]]
                    self.assertEqual(told, [area_of(picture), how_many(picture), piece_count(picture, 2), len(symmetries_of(picture)), inside_cell(picture)[:2]])
                    self.assertEqual(outside_of(made), turned_picture(outside_of(picture), motion))

    def test_journals_books_forms_and_texts_are_read_back(self):
        for base in (2, 3, 4):
            for picture in sample_pictures(2, base, 2, 12):
                text = picture_text(picture)
                self.assertEqual(picture_text(Picture(Book(text), "a")), text)
                self.assertEqual(picture_from(2, base, Picture(Book(text), "a").form), picture)
