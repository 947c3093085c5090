"""Section 7: meeting_place."""

import random
import unittest
from fractions import Fraction
from itertools import product

from selfdrawn.beside import meeting_place
from selfdrawn.books import Book
from selfdrawn.errors import Unlike
from selfdrawn.making import met_pictures, turned_picture
from selfdrawn.pictures import Picture, empty_picture, single_point, whole_picture
from selfdrawn.points import first_point, fraction_of
from tests.helpers import TABLES, error_of
from tests.samples import KINDS, SMALL, cells_that_meet, sample_books, sample_pictures, some_points, written
from tests.slow import Drawing


def are_near(one, other, depth):
    """Whether some cell that meets one is the same as, or beside, a cell that meets other."""
    there = cells_that_meet(other, depth)
    steps = list(product((-1, 0, 1), repeat=one.sides))
    return any(
        tuple(place + by for place, by in zip(cell, step)) in there for cell in cells_that_meet(one, depth) for step in steps
    )


class MeetingTest(unittest.TestCase):

    def check(self, one, other):
        told = meeting_place(one, other)
        self.assertIs(type(told), tuple)
        self.assertEqual(len(told), 2)
        if told[0] == "meet":
            met = met_pictures(one, other)
            self.assertEqual(told[1], first_point(met))
            return 1
        self.assertEqual(told[0], "apart")
        self.assertFalse(met_pictures(one, other).form)
        depth = told[1]
        if one.form and other.form and one.base ** (one.sides * (depth + 1)) <= 3000:
            self.assertTrue(are_near(one, other, depth - 1))
            self.assertFalse(are_near(one, other, depth))
            self.assertFalse(are_near(one, other, depth + 1))
        return 0

    def test_both_ways_round(self):
        for sides, base in KINDS:
            pictures = sample_pictures(sides, base, 4)
            counts = [0, 0]
            for one, other in product(pictures, repeat=2):
                counts[self.check(one, other)] += 1
                self.assertEqual(meeting_place(other, one), meeting_place(one, other))
            self.assertTrue(min(counts) > 5, counts)

    def test_the_first_common_point_is_in_both(self):
        for sides, base in KINDS:
            books = sample_books(sides, base, 3)
            for (one, name), (other, beside) in product(books, repeat=2):
                told = meeting_place(Picture(one, name), Picture(other, beside))
                if told[0] == "meet":
                    point = tuple(Fraction(*fraction_of(base, place)) for place in told[1])
                    self.assertTrue(Drawing(one).has(name, point))
                    self.assertTrue(Drawing(other).has(beside, point))

    def test_no_common_point_is_ahead_of_the_first_one(self):
        draw = random.Random(121)
        for sides, base in KINDS:
            for (book, name), (other, beside) in product(sample_books(sides, base, 2), repeat=2):
                one, two = Drawing(book), Drawing(other)
                told = meeting_place(Picture(book, name), Picture(other, beside))
                for point in one.likely_points(draw, name, 4) + some_points(draw, sides, 2, SMALL):
                    if one.has(name, point) and two.has(beside, point):
                        self.assertEqual(told[0], "meet")
                        first = tuple(Fraction(*fraction_of(base, place)) for place in told[1])
                        self.assertLessEqual(first, point)

    def test_points_by_their_distance(self):
        draw = random.Random(122)
        for sides, base in KINDS:
            for _ in range(12):
                one, other = some_points(draw, sides, 2)
                self.check(single_point(base, written(one)), single_point(base, written(other)))

    def test_a_side_or_a_corner_alone_in_common(self):
        book = Book("plane 2\nkind left\n# .\n# .\nkind right\n. #\n. #\nkind upper\n# .\n. .\nkind lower\n. .\n. #")
        left, right, upper, lower = [Picture(book, name) for name in book.names]
        half = ((1,), (0,))
        self.assertEqual(meeting_place(left, right), ("meet", (half, ((), (0,)))))
        self.assertEqual(meeting_place(upper, lower), ("meet", (half, half)))
        self.assertEqual(meeting_place(left, lower), ("meet", (half, half)))
        sides = Book("plane 3\nkind a\na . .\na . .\na . .\nkind b\n. . b\n. . b\n. . b")
        one, other = Picture(sides, "a"), Picture(sides, "b")
        self.assertEqual(meeting_place(one, other), ("apart", 1))
        self.assertEqual(meeting_place(one, turned_picture(one, 1)), ("meet", (((), (0,)), ((), (0,)))))
        self.assertEqual(meeting_place(other, turned_picture(one, 3)), ("meet", (((), (2,)), ((), (2,)))))

    def test_depths_that_are_told_out(self):
        ends = [single_point(2, ((0, 1),)), single_point(2, ((1, 1),))]
        self.assertEqual(meeting_place(*ends), ("apart", 2))
        self.assertEqual(meeting_place(*[single_point(3, ((end, 1),)) for end in (0, 1)]), ("apart", 1))
        self.assertEqual(meeting_place(single_point(2, ((0, 1),)), single_point(2, ((1, 2),))), ("apart", 3))
        near = [single_point(2, ((29, 60),)), single_point(2, ((30, 59),))]
        depth = meeting_place(*near)[1]
        self.assertFalse(are_near(*near, depth))
        self.assertTrue(are_near(*near, depth - 1))
        corners = [single_point(2, ((0, 1), (0, 1))), single_point(2, ((0, 1), (1, 1)))]
        self.assertEqual(meeting_place(*corners), ("apart", 2))

    def test_apart_at_each_depth_from_there_on(self):
        one = Picture(Book("plane 2\nkind a\na .\n. ."), "a")
        other = Picture(Book("plane 2\nkind a\n. .\n. a"), "a")
        self.assertEqual([are_near(one, other, depth) for depth in range(6)], [True, True, False, False, False, False])

    def test_empty_pictures(self):
        for sides, base in KINDS:
            empty = empty_picture(sides, base)
            for picture in sample_pictures(sides, base, 2):
                self.assertEqual(meeting_place(empty, picture), ("apart", 0))
                self.assertEqual(meeting_place(picture, empty), ("apart", 0))

    def test_with_the_whole_picture(self):
        for sides, base in KINDS:
            for picture in sample_pictures(sides, base, 4)[1:]:
                told = ("meet", first_point(picture))
                self.assertEqual(meeting_place(picture, whole_picture(sides, base)), told)
                self.assertEqual(meeting_place(picture, picture), told)

    def test_apart_goes_along_with_motions(self):
        for sides, base in KINDS:
            pictures = sample_pictures(sides, base, 3)
            for one, other in product(pictures, repeat=2):
                told = meeting_place(one, other)
                for motion in range(len(TABLES[sides])):
                    turned = meeting_place(turned_picture(one, motion), turned_picture(other, motion))
                    self.assertEqual(turned[0], told[0])
                    if told[0] == "apart":
                        self.assertEqual(turned, told)

    def test_pairs_that_are_not_alike_in_kind(self):
        for one, other in product(KINDS, repeat=2):
            for make in (empty_picture, whole_picture):
                error = error_of(meeting_place, make(*one), make(*other))
                if one == other:
                    self.assertIsNone(error)
                else:
                    self.assertIs(type(error), Unlike)
                    self.assertEqual(error.value, other)
