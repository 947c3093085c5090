"""Section 11: count_cells."""

import random
import unittest
from fractions import Fraction
from itertools import product

from selfdrawn.books import Book
from selfdrawn.counts import area_of, count_cells
from selfdrawn.errors import BadBox, BadNumber
from selfdrawn.making import turned_picture
from selfdrawn.pictures import Picture, content_at, empty_picture, single_point, whole_picture
from tests.helpers import HUGE, TABLES, check_refused, moved_cell
from tests.samples import KINDS, cells_that_meet, sample_pictures
from tests.values import LINE, NOTHINGS, NUMBERS_OUT, PLANE, no_integers, no_tuples


def all_cells(picture, depth):
    """How many cells of this depth meet the picture."""
    return count_cells(picture, depth, (0,) * picture.sides, (picture.base ** depth,) * picture.sides)


def some_box(draw, sides, size):
    """Two corners of a box of cells, the first one with the less numbers."""
    pairs = [sorted((draw.randint(0, size), draw.randint(0, size))) for _ in range(sides)]
    return tuple(low for low, _ in pairs), tuple(high for _, high in pairs)


def lies_in(cell, low, high):
    return all(begin <= place < end for place, begin, end in zip(cell, low, high))


class CountTest(unittest.TestCase):

    def test_every_box_of_small_depths(self):
        for sides, base in KINDS:
            deepest = 2 if base ** (2 * sides) <= 16 else 1
            for picture in sample_pictures(sides, base, 3, 20):
                for depth in range(deepest + 1):
                    size = base ** depth
                    cells = list(cells_that_meet(picture, depth))
                    for low in product(range(size + 1), repeat=sides):
                        for high in product(*[range(begin, size + 1) for begin in low]):
                            told = sum(lies_in(cell, low, high) for cell in cells)
                            self.assertEqual(count_cells(picture, depth, low, high), told, (depth, low, high))

    def test_some_boxes_of_greater_depths(self):
        draw = random.Random(200)
        for sides, base in KINDS:
            depth = {2: 4, 3: 3, 4: 2}[base] * (3 - sides)
            for picture in sample_pictures(sides, base, 4, 30):
                cells = list(cells_that_meet(picture, depth))
                for _ in range(12):
                    low, high = some_box(draw, sides, base ** depth)
                    told = sum(lies_in(cell, low, high) for cell in cells)
                    self.assertEqual(count_cells(picture, depth, low, high), told)

    def test_cells_near_one_another_one_by_one(self):
        draw = random.Random(201)
        for sides, base in KINDS:
            for picture in sample_pictures(sides, base, 2, 30):
                for depth in (1, 7, 100, 200):
                    size = base ** depth
                    corner = [draw.randrange(size) for _ in range(sides)]
                    cells = product(*[range(place, min(place + 3, size)) for place in corner])
                    near = {cell: bool(content_at(picture, depth, cell).form) for cell in cells}
                    for cell, meets in near.items():
                        behind = tuple(place + 1 for place in cell)
                        self.assertEqual(count_cells(picture, depth, cell, behind), meets)
                    low, high = min(near), tuple(place + 1 for place in max(near))
                    self.assertEqual(count_cells(picture, depth, low, high), sum(near.values()))

    def test_depth_0(self):
        for sides, base in KINDS:
            for picture in sample_pictures(sides, base, 2):
                for low, high in ((0, 0), (0, 1), (1, 1)):
                    told = count_cells(picture, 0, (low,) * sides, (high,) * sides)
                    self.assertEqual(told, int(bool(picture.form)) if (low, high) == (0, 1) else 0)
                    self.assertIs(type(told), int)

    def test_boxes_without_cells(self):
        for depth in (0, 3, 200):
            size = 2 ** depth
            for place in (0, size // 2, size):
                self.assertEqual(count_cells(PLANE, depth, (place, 0), (place, size)), 0)
                self.assertEqual(count_cells(PLANE, depth, (0, place), (size, place)), 0)
                self.assertEqual(count_cells(whole_picture(1, 2), depth, (place,), (place,)), 0)

    def test_boxes_cut_in_two_add_up(self):
        draw = random.Random(202)
        for sides, base in KINDS:
            for picture in sample_pictures(sides, base, 3, 30):
                for depth in (3, 200):
                    low, high = some_box(draw, sides, base ** depth)
                    side = draw.randrange(sides)
                    cut = draw.randint(low[side], high[side])
                    one = high[:side] + (cut,) + high[side + 1:]
                    other = low[:side] + (cut,) + low[side + 1:]
                    halves = count_cells(picture, depth, low, one) + count_cells(picture, depth, other, high)
                    self.assertEqual(halves, count_cells(picture, depth, low, high))

    def test_whole_and_empty_pictures(self):
        draw = random.Random(203)
        for sides, base in KINDS:
            for depth in (0, 1, 17, 200):
                low, high = some_box(draw, sides, base ** depth)
                many = 1
                for begin, end in zip(low, high):
                    many *= end - begin
                self.assertEqual(count_cells(whole_picture(sides, base), depth, low, high), many)
                self.assertEqual(count_cells(empty_picture(sides, base), depth, low, high), 0)

    def test_a_point_on_seams(self):
        middle = single_point(2, ((1, 2), (1, 2)))
        self.assertEqual([all_cells(middle, depth) for depth in (0, 1, 2, 200)], [1, 4, 4, 4])
        self.assertEqual(all_cells(single_point(3, ((1, 2), (1, 2))), 200), 1)
        self.assertEqual(all_cells(single_point(4, ((1, 4), (1, 3))), 200), 2)
        self.assertEqual(count_cells(middle, 200, (2 ** 199 - 1, 2 ** 199), (2 ** 199, 2 ** 199 + 1)), 1)
        self.assertEqual(count_cells(middle, 200, (2 ** 199 + 1, 0), (2 ** 200, 2 ** 200)), 0)


class ForAllTest(unittest.TestCase):

    def test_all_cells_by_their_number_never_increase_and_come_near_the_area(self):
        for sides, base in KINDS:
            for picture in sample_pictures(sides, base, 4):
                area = Fraction(*area_of(picture))
                depths = (0, 1, 2, 3, 4, 5, 10, 50, 199, 200)
                told = [Fraction(all_cells(picture, depth), base ** (depth * sides)) for depth in depths]
                self.assertEqual(told, sorted(told, reverse=True))
                self.assertGreaterEqual(told[-1], area)
                self.assertLess(told[-1] - area, Fraction(1, 20))

    def test_turned_pictures_have_the_same_counts(self):
        draw = random.Random(204)
        for sides, base in KINDS:
            for picture in sample_pictures(sides, base, 2, 30):
                for motion in range(len(TABLES[sides])):
                    turned = turned_picture(picture, motion)
                    for depth in (2, 60, 200):
                        size = base ** depth
                        self.assertEqual(all_cells(turned, depth), all_cells(picture, depth))
                        low, high = some_box(draw, sides, size)
                        if all(begin < end for begin, end in zip(low, high)) and depth == 2:
                            last = tuple(end - 1 for end in high)
                            ends = [moved_cell(sides, size, motion, cell) for cell in (low, last)]
                            begin = tuple(map(min, *ends))
                            behind = tuple(place + 1 for place in map(max, *ends))
                            told = count_cells(turned, depth, begin, behind)
                            self.assertEqual(told, count_cells(picture, depth, low, high))


class RefusedCountTest(unittest.TestCase):

    def test_depths(self):
        for value in no_integers() + NUMBERS_OUT + (201, -1):
            check_refused(self, BadNumber, value, count_cells, PLANE, value, (0, 0), (1, 1))
            check_refused(self, BadNumber, value, count_cells, LINE, value, None, [0])
            check_refused(self, BadNumber, value, count_cells, empty_picture(2, 2), value, (0, 0), (1, 1))

    def test_low(self):
        for depth in (0, 3, 200):
            size = 2 ** depth
            for value in no_tuples() + ((), (0,), (0, 0, 0), (size + 1, 0), (0, size + 1), (-1, 0), (0, -1), (True, 0),
                                        (0, False), (0, None), ("0", 0), (0, [0]), (HUGE, HUGE), ((0, 0), (1, 1))):
                for high in ((size, size), None, value):
                    check_refused(self, BadBox, value, count_cells, PLANE, depth, value, high)
                check_refused(self, BadBox, value, count_cells, empty_picture(2, 2), depth, value, (0, 0))
        for value in NOTHINGS + NUMBERS_OUT + ((), (28,), (-1,), (0, 0), (True,), 0, 1):
            check_refused(self, BadBox, value, count_cells, LINE, 3, value, (27,))

    def test_high(self):
        for depth in (0, 3, 200):
            size = 2 ** depth
            for value in no_tuples() + ((), (1,), (1, 1, 1), (size + 1, size), (size, size + 1), (-1, 1), (True, 1),
                                        (1, True), (1, None), ("1", 1), (HUGE, HUGE)):
                check_refused(self, BadBox, value, count_cells, PLANE, depth, (0, 0), value)
                check_refused(self, BadBox, value, count_cells, empty_picture(2, 2), depth, (0, 0), value)
        for value in NOTHINGS + NUMBERS_OUT + ((), (28,), (-1,), (1, 1), (True,), 0, 1):
            check_refused(self, BadBox, value, count_cells, LINE, 3, (0,), value)

    def test_high_below_low(self):
        for low, high in (((3, 3), (2, 5)), ((3, 3), (5, 2)), ((8, 8), (7, 7)), ((1, 0), (0, 8)), ((0, 1), (8, 0))):
            check_refused(self, BadBox, high, count_cells, PLANE, 3, low, high)
        check_refused(self, BadBox, (4,), count_cells, LINE, 3, (5,), (4,))

    def test_the_outermost_that_are_taken(self):
        self.assertEqual(count_cells(PLANE, 3, (0, 0), (0, 0)), 0)
        self.assertEqual(count_cells(PLANE, 3, (8, 8), (8, 8)), 0)
        self.assertEqual(count_cells(PLANE, 3, (8, 0), (8, 8)), 0)
        self.assertEqual(count_cells(PLANE, 3, (0, 0), (8, 8)), all_cells(PLANE, 3))
        self.assertEqual(count_cells(LINE, 200, (0,), (3 ** 200,)), 3 ** 200)

    def test_what_is_near_a_hole(self):
        ring = Picture(Book("plane 3\nkind a\n# # #\n# . #\n# # #"), "a")
        self.assertEqual(count_cells(ring, 1, (1, 1), (2, 2)), 1)
        self.assertEqual(count_cells(ring, 2, (4, 4), (5, 5)), 0)
        self.assertEqual(count_cells(ring, 2, (3, 3), (6, 6)), 8)
