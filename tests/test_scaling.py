"""Section 8: lesser_picture and zoomed_picture."""

import random
import unittest
from fractions import Fraction
from itertools import product

from selfdrawn.beside import is_within
from selfdrawn.errors import BadCell, BadNumber
from selfdrawn.making import joined_pictures, met_pictures, parts_of, put_together, turned_picture
from selfdrawn.motions import cell_under
from selfdrawn.pictures import Picture, empty_picture, single_point, whole_picture
from selfdrawn.points import has_point
from selfdrawn.scaling import lesser_picture, zoomed_picture
from tests.helpers import HUGE, TABLES, check_refused
from tests.samples import KINDS, SMALL, sample_books, sample_pictures, some_points, written
from tests.slow import Drawing
from tests.test_making import is_one_form
from tests.values import LINE, PLANE, no_integers, no_tuples

SCALES = [(sides, base, many) for sides, base in KINDS for many in (1, 2, 3, 4)]


def some_cell(draw, sides, many):
    return tuple(draw.randrange(many) for _ in range(sides))


def all_cells(sides, many):
    return list(product(range(many), repeat=sides))


def least_lows(points):
    """Those points that can be passed in."""
    return [point for point in points if max(number.denominator for number in point) <= 60]


class LesserTest(unittest.TestCase):

    def test_by_points(self):
        draw = random.Random(141)
        for sides, base, many in SCALES:
            found = [0, 0]
            for book, name in sample_books(sides, base, 5):
                drawing = Drawing(book)
                cell = some_cell(draw, sides, many)
                lesser = lesser_picture(Picture(book, name), many, cell)
                self.assertEqual((lesser.sides, lesser.base), (sides, base))
                is_one_form(self, lesser)
                likely = drawing.likely_points(draw, name, 12)
                points = [tuple((number + step) / many for number, step in zip(point, cell)) for point in likely]
                sides_of_cell = [Fraction(step, many) for step in range(many + 1)]
                points += some_points(draw, sides, 6, SMALL) + some_points(draw, sides, 6, sides_of_cell)
                for point in least_lows(points):
                    back = tuple(many * number - step for number, step in zip(point, cell))
                    told = all(0 <= number <= 1 for number in back) and drawing.has(name, back)
                    found[told] += 1
                    self.assertEqual(has_point(lesser, written(point)), told, (book.text, many, cell, point))
            self.assertTrue(min(found) > 5, (sides, base, many, found))

    def test_each_cell(self):
        for sides, base in KINDS:
            for many in (1, 2, 3, 4):
                for cell in all_cells(sides, many):
                    point = tuple(Fraction(step, many) + Fraction(1, 3 * many) for step in cell)
                    told = lesser_picture(single_point(base, ((1, 3),) * sides), many, cell)
                    self.assertEqual(told, single_point(base, written(point)))

    def test_the_cells_of_the_whole(self):
        for sides, base, many in SCALES:
            whole = whole_picture(sides, base)
            told = empty_picture(sides, base)
            for cell in all_cells(sides, many):
                told = joined_pictures(told, lesser_picture(whole, many, cell))
            self.assertEqual(told, whole)

    def test_at_the_scale_of_the_base(self):
        draw = random.Random(142)
        for sides, base in KINDS:
            for picture in sample_pictures(sides, base, 5):
                cell = some_cell(draw, sides, base)
                parts = [empty_picture(sides, base)] * base ** sides
                parts[sum(step * base ** axis for axis, step in enumerate(cell))] = picture
                self.assertEqual(lesser_picture(picture, base, cell), put_together(tuple(parts)))

    def test_scale_1_and_empty_pictures(self):
        for sides, base in KINDS:
            for picture in sample_pictures(sides, base, 4):
                self.assertEqual(lesser_picture(picture, 1, (0,) * sides), picture)
            empty = empty_picture(sides, base)
            for many in (1, 2, 3, 4):
                self.assertEqual(lesser_picture(empty, many, (many - 1,) * sides), empty)


class ZoomedTest(unittest.TestCase):

    def test_by_points(self):
        draw = random.Random(143)
        for sides, base, many in SCALES:
            found = [0, 0]
            for book, name in sample_books(sides, base, 5):
                drawing = Drawing(book)
                picture = Picture(book, name)
                likely = least_lows(drawing.likely_points(draw, name, 12))
                for point in likely + some_points(draw, sides, 6, SMALL):
                    cell = tuple(min(int(many * number), many - 1) for number in point)
                    if draw.random() < 0.3:
                        cell = tuple(max(0, step - 1) for step in cell)
                    inner = tuple(many * number - step for number, step in zip(point, cell))
                    if all(0 <= number <= 1 for number in inner):
                        told = drawing.has(name, point)
                        found[told] += 1
                        zoomed = zoomed_picture(picture, many, cell)
                        self.assertEqual(has_point(zoomed, written(inner)), told, (book.text, many, cell, point))
            self.assertTrue(min(found) > 5, (sides, base, many, found))

    def test_what_is_made_is_one_form(self):
        draw = random.Random(144)
        for sides, base, many in SCALES:
            for picture in sample_pictures(sides, base, 3):
                zoomed = zoomed_picture(picture, many, some_cell(draw, sides, many))
                self.assertEqual((zoomed.sides, zoomed.base), (sides, base))
                is_one_form(self, zoomed)

    def test_at_the_scale_of_the_base(self):
        for sides, base in KINDS:
            for picture in sample_pictures(sides, base, 4):
                parts = parts_of(picture)
                for cell in all_cells(sides, base):
                    at = sum(step * base ** axis for axis, step in enumerate(cell))
                    self.assertEqual(zoomed_picture(picture, base, cell), parts[at])

    def test_scale_1_empty_and_whole_pictures(self):
        for sides, base in KINDS:
            for picture in sample_pictures(sides, base, 4):
                self.assertEqual(zoomed_picture(picture, 1, (0,) * sides), picture)
            for many, make in product((1, 2, 3, 4), (empty_picture, whole_picture)):
                picture = make(sides, base)
                for cell in all_cells(sides, many):
                    self.assertEqual(zoomed_picture(picture, many, cell), picture)

    def test_one_scale_behind_another(self):
        draw = random.Random(145)
        for sides, base in KINDS:
            for picture in sample_pictures(sides, base, 4):
                for one, other in ((2, 2), (2, 1), (1, 3), (4, 1)):
                    above, within = some_cell(draw, sides, one), some_cell(draw, sides, other)
                    cell = tuple(other * begin + step for begin, step in zip(above, within))
                    twice = zoomed_picture(zoomed_picture(picture, one, above), other, within)
                    self.assertEqual(twice, zoomed_picture(picture, one * other, cell))
                    twice = lesser_picture(lesser_picture(picture, other, within), one, above)
                    self.assertEqual(twice, lesser_picture(picture, one * other, cell))


class ThereAndBackTest(unittest.TestCase):

    def test_zoomed_undoes_smaller(self):
        draw = random.Random(146)
        for sides, base, many in SCALES:
            for picture in sample_pictures(sides, base, 3):
                cell = some_cell(draw, sides, many)
                self.assertEqual(zoomed_picture(lesser_picture(picture, many, cell), many, cell), picture)

    def test_smaller_of_zoomed_is_what_lies_in_the_cell(self):
        draw = random.Random(147)
        for sides, base, many in SCALES:
            for picture in sample_pictures(sides, base, 3):
                cell = some_cell(draw, sides, many)
                box = lesser_picture(whole_picture(sides, base), many, cell)
                told = lesser_picture(zoomed_picture(picture, many, cell), many, cell)
                self.assertEqual(told, met_pictures(picture, box))

    def test_joined_over_all_cells(self):
        for sides, base, many in SCALES:
            for picture in sample_pictures(sides, base, 2, 12):
                told = empty_picture(sides, base)
                for cell in all_cells(sides, many):
                    told = joined_pictures(told, lesser_picture(zoomed_picture(picture, many, cell), many, cell))
                self.assertEqual(told, picture)

    def test_with_motions_joined_and_met_pictures(self):
        draw = random.Random(148)
        for sides, base, many in SCALES:
            one, other = [draw.choice(sample_pictures(sides, base, 4, 30)) for _ in range(2)]
            cell = some_cell(draw, sides, many)
            motion = draw.randrange(len(TABLES[sides]))
            moved = cell_under(sides, many, motion, cell)
            for call in (lesser_picture, zoomed_picture):
                pair = call(one, many, cell), call(other, many, cell)
                self.assertEqual(call(joined_pictures(one, other), many, cell), joined_pictures(*pair))
                self.assertEqual(call(met_pictures(one, other), many, cell), met_pictures(*pair))
                self.assertEqual(call(turned_picture(one, motion), many, moved), turned_picture(pair[0], motion))

    def test_within_goes_along(self):
        for sides, base, many in SCALES:
            one, other = sample_pictures(sides, base, 3)[-2:]
            both = joined_pictures(one, other)
            for call in (lesser_picture, zoomed_picture):
                self.assertEqual(is_within(call(one, many, (0,) * sides), call(both, many, (0,) * sides)), ("within",))


class RefusedTest(unittest.TestCase):

    def test_numbers_that_are_none(self):
        for call in (lesser_picture, zoomed_picture):
            for many in no_integers() + (0, 5, -1, HUGE, -HUGE):
                check_refused(self, BadNumber, many, call, PLANE, many, (0, 0))
                check_refused(self, BadNumber, many, call, LINE, many, (0,))
                check_refused(self, BadNumber, many, call, PLANE, many, None)

    def test_cells_that_are_none(self):
        for call in (lesser_picture, zoomed_picture):
            for cell in no_tuples() + ((), (0,), (0, 0, 0), (3, 0), (0, 3), (-1, 0), (0, -1), (True, 0), (0, False), (HUGE, 0),
                                       ("0", 0), (None, 0), ((0, 0), 0), ([0], [0]), ((0, 1), (0, 1))):
                check_refused(self, BadCell, cell, call, PLANE, 3, cell)
            for cell in no_tuples() + ((), (0, 0), (3,), (-1,), (True,), (None,), ("0",), ((0,),), ([0],), (HUGE,)):
                check_refused(self, BadCell, cell, call, LINE, 3, cell)
            for many in (1, 2, 3, 4):
                end = (many,)
                check_refused(self, BadCell, end, call, empty_picture(1, 2), many, end)
                call(empty_picture(1, 2), many, (many - 1,))
