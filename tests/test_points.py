"""Section 6: has_point and point_cells."""

import random
import unittest
from fractions import Fraction
from itertools import product
from math import floor

from selfdrawn.books import Book
from selfdrawn.errors import BadNumber, BadPoint
from selfdrawn.pictures import Picture, content_at, empty_picture, whole_picture
from selfdrawn.points import has_point, point_cells
from tests.helpers import HUGE, check_refused
from tests.samples import KINDS, NUMBERS, SMALL, sample_books, some_points, written
from tests.slow import Drawing
from tests.test_contents import no_points
from tests.values import LINE, PLANE, no_integers


class HasPointTest(unittest.TestCase):

    def check(self, book, name, points):
        """Check points of one picture; return how many of them it has, and how many not."""
        drawing = Drawing(book)
        picture = Picture(book, name)
        found = [0, 0]
        for point in points:
            told = drawing.has(name, point)
            found[told] += 1
            self.assertIs(has_point(picture, written(point)), told, (book.text, name, point))
        return found

    def test_as_all_addresses_of_a_point_tell(self):
        draw = random.Random(91)
        for sides, base in KINDS:
            found = [0, 0]
            for book, name in sample_books(sides, base, 16):
                points = Drawing(book).likely_points(draw, name, 25) + some_points(draw, sides, 15)
                found = [one + more for one, more in zip(found, self.check(book, name, points))]
            self.assertTrue(min(found) > 40, (sides, base, found))

    def test_points_on_seams_and_at_corners(self):
        draw = random.Random(92)
        for sides, base in KINDS:
            for book, name in sample_books(sides, base, 8):
                for depth in (1, 2):
                    seams = [Fraction(step, base ** depth) for step in range(base ** depth + 1)]
                    points = [tuple(draw.choice(seams) for _ in range(sides)) for _ in range(8)]
                    points += [(draw.choice(seams), draw.choice(SMALL))[:sides] for _ in range(6)]
                    points += [(draw.choice(SMALL), draw.choice(seams))[:sides] for _ in range(6)]
                    self.check(book, name, points)

    def test_points_on_the_rim(self):
        draw = random.Random(93)
        ends = (Fraction(0), Fraction(1))
        for sides, base in KINDS:
            for book, name in sample_books(sides, base, 8):
                points = list(product(ends, repeat=sides))
                points += [(end, draw.choice(NUMBERS))[:sides] for end in ends for _ in range(5)]
                points += [(draw.choice(NUMBERS), end)[:sides] for end in ends for _ in range(5)]
                self.check(book, name, points)

    def test_all_numbers_on_lines(self):
        for base in (2, 3, 4):
            for book, name in sample_books(1, base, 4):
                self.check(book, name, [(Fraction(top, low),) for low in (53, 59, 60) for top in range(low + 1)])

    def test_empty_and_whole_pictures(self):
        for sides, base in KINDS:
            for number in NUMBERS:
                point = written((number,) * sides)
                self.assertIs(has_point(empty_picture(sides, base), point), False)
                self.assertIs(has_point(whole_picture(sides, base), point), True)

    def test_exactly_if_contents_are_not_empty_at_each_depth(self):
        draw = random.Random(94)
        for sides, base in KINDS:
            for book, name in sample_books(sides, base, 3):
                picture = Picture(book, name)
                points = Drawing(book).likely_points(draw, name, 6) + some_points(draw, sides, 6, SMALL)
                for point in points:
                    there = has_point(picture, written(point))
                    seen = []
                    for depth in (0, 1, 2, 3, 200):
                        cells = point_cells(base, depth, written(point))
                        seen.append([content_at(picture, depth, cell).form != () for cell in cells])
                    if there:
                        self.assertTrue(all(all(row) for row in seen))
                    else:
                        self.assertFalse(any(seen[-1]))

    def test_points_that_are_none(self):
        for point in no_points():
            check_refused(self, BadPoint, point, has_point, PLANE, point)
            check_refused(self, BadPoint, point, has_point, LINE, point)

    def test_points_of_the_other_sides(self):
        line_point, plane_point = ((1, 2),), ((1, 2), (1, 2))
        check_refused(self, BadPoint, line_point, has_point, PLANE, line_point)
        check_refused(self, BadPoint, plane_point, has_point, LINE, plane_point)
        self.assertIs(has_point(PLANE, plane_point), True)
        self.assertIs(has_point(LINE, line_point), True)


class PointCellsTest(unittest.TestCase):

    def test_as_all_cells_are_tried(self):
        draw = random.Random(95)
        counts = {1: 0, 2: 0, 4: 0}
        for sides, base in KINDS:
            for depth in range(4 if base == 2 else 3):
                size = base ** depth
                seams = [Fraction(step, size) for step in range(size + 1)]
                points = some_points(draw, sides, 6) + some_points(draw, sides, 6, seams)
                for point in points:
                    cells = [
                        cell for cell in product(range(size), repeat=sides)
                        if all(place <= size * number <= place + 1 for number, place in zip(point, cell))
                    ]
                    told = point_cells(base, depth, written(point))
                    self.assertEqual(told, tuple(cells))
                    counts[len(told)] += 1
        self.assertTrue(min(counts.values()) > 10, counts)

    def test_one_two_and_four_cells(self):
        self.assertEqual(point_cells(2, 1, ((1, 3), (1, 3))), ((0, 0),))
        self.assertEqual(point_cells(2, 1, ((1, 2), (1, 3))), ((0, 0), (1, 0)))
        self.assertEqual(point_cells(2, 1, ((1, 3), (1, 2))), ((0, 0), (0, 1)))
        self.assertEqual(point_cells(2, 2, ((1, 4), (3, 4))), ((0, 2), (0, 3), (1, 2), (1, 3)))
        self.assertEqual(point_cells(4, 1, ((1, 2),)), ((1,), (2,)))
        self.assertEqual(point_cells(4, 1, ((1, 1), (0, 1))), ((3, 0),))
        self.assertEqual(point_cells(3, 0, ((1, 2), (1, 1))), ((0, 0),))
        self.assertEqual(point_cells(3, 0, ((0, 1),)), ((0,),))

    def test_at_depth_200(self):
        for base in (2, 3, 4):
            size = base ** 200
            self.assertEqual(point_cells(base, 200, ((0, 1), (1, 1))), ((0, size - 1),))
            for number in (Fraction(1, 7), Fraction(34, 59), Fraction(1, 5)):
                self.assertEqual(point_cells(base, 200, written((number,))), ((floor(size * number),),))
            seam = size // base
            self.assertEqual(point_cells(base, 200, ((1, base),)), ((seam - 1,), (seam,)))
            four = tuple(product((seam - 1, seam), repeat=2))
            self.assertEqual(point_cells(base, 200, ((1, base), (1, base))), four)

    def test_bases_that_are_none(self):
        for base in no_integers() + (0, 1, 5, -2, HUGE):
            check_refused(self, BadNumber, base, point_cells, base, 1, ((0, 1),))
            check_refused(self, BadNumber, base, point_cells, base, None, None)

    def test_depths_that_are_none(self):
        for depth in no_integers() + (-1, 201, HUGE, -HUGE):
            check_refused(self, BadNumber, depth, point_cells, 2, depth, ((0, 1),))
            check_refused(self, BadNumber, depth, point_cells, 2, depth, None)

    def test_points_that_are_none(self):
        for point in no_points():
            check_refused(self, BadPoint, point, point_cells, 2, 3, point)


class ExampleBookTest(unittest.TestCase):

    def test_points_of_the_sieve(self):
        sieve = Picture(Book("plane 2\nkind a\na .\na a"), "a")
        for x, y in product(SMALL, repeat=2):
            told = any(self.never_above(one, other) for one in figures(x) for other in figures(y))
            self.assertEqual(has_point(sieve, written((x, y))), told, (x, y))

    def never_above(self, one, other):
        """Whether no figure of x is 1 where that of y is 0, at the first 60 places."""
        return all(a <= b for a, b in zip(one, other))


def figures(number):
    """The first 60 figures at base 2 of a number, by each of its addresses."""
    told = []
    for last in (floor(number * 2 ** 60), -floor(-number * 2 ** 60) - 1):
        if 0 <= last < 2 ** 60 and last not in told:
            told.append(last)
    return [[last >> place & 1 for place in range(59, -1, -1)] for last in told]
