"""Section 5: content_at and single_point."""

import random
import unittest
from fractions import Fraction
from itertools import product

from selfdrawn.books import Book
from selfdrawn.errors import BadCell, BadNumber, BadPoint
from selfdrawn.pictures import Picture, content_at, empty_picture, picture_from, single_point, whole_picture
from selfdrawn.points import first_point, fraction_of, has_point, last_point, point_cells
from tests.helpers import HUGE, check_refused
from tests.samples import KINDS, NUMBERS, SMALL, sample_books, sample_pictures, some_points, written
from tests.slow import Drawing
from tests.values import NOTHINGS, no_integers, no_tuples

FALLING = Picture(Book("plane 2\nkind d\nd .\n. d"), "d")


def drawn_up(base, depth, cell, point):
    """The point of the picture that a point of the content in this cell is."""
    return tuple((number + place) / base ** depth for number, place in zip(point, cell))


class ContentTest(unittest.TestCase):

    def test_points_of_contents_are_points_of_the_picture(self):
        draw = random.Random(71)
        for sides, base in KINDS:
            found = [0, 0]
            for book, name in sample_books(sides, base, 6):
                drawing = Drawing(book)
                picture = Picture(book, name)
                for point in drawing.likely_points(draw, name, 6) + some_points(draw, sides, 4, SMALL):
                    depth = draw.randrange(1, 4)
                    inner = tuple(draw.choice(SMALL) for _ in range(sides))
                    numbers = [Fraction(base ** depth) * number for number in point]
                    cell = tuple(min(int(number), base ** depth - 1) for number in numbers)
                    for place in (inner, tuple(number - step for number, step in zip(numbers, cell))):
                        told = drawing.has(name, drawn_up(base, depth, cell, place))
                        found[told] += 1
                        self.assertEqual(has_point(content_at(picture, depth, cell), written(place)), told)
            self.assertTrue(min(found) > 10, found)

    def test_points_on_seams_are_in_the_contents_on_both_sides(self):
        draw = random.Random(72)
        for sides, base in KINDS:
            for picture in sample_pictures(sides, base, 4):
                for depth in (1, 2):
                    seams = [Fraction(step, base ** depth) for step in range(base ** depth + 1)]
                    for _ in range(8):
                        point = (draw.choice(seams),) + tuple(draw.choice(NUMBERS) for _ in range(sides - 1))
                        told = has_point(picture, written(point))
                        for cell in point_cells(base, depth, written(point)):
                            place = tuple(number * base ** depth - step for number, step in zip(point, cell))
                            if max(number.denominator for number in place) <= 60:
                                self.assertEqual(has_point(content_at(picture, depth, cell), written(place)), told)

    def test_depth_0_is_the_picture_itself(self):
        for sides, base in KINDS:
            for picture in sample_pictures(sides, base, 4):
                self.assertEqual(content_at(picture, 0, (0,) * sides), picture)

    def test_contents_of_contents(self):
        draw = random.Random(73)
        for sides, base in KINDS:
            for picture in sample_pictures(sides, base, 4):
                for _ in range(6):
                    one, other = draw.randrange(0, 4), draw.randrange(0, 4)
                    above = tuple(draw.randrange(base ** one) for _ in range(sides))
                    within = tuple(draw.randrange(base ** other) for _ in range(sides))
                    cell = tuple(base ** other * begin + step for begin, step in zip(above, within))
                    content = content_at(content_at(picture, one, above), other, within)
                    self.assertEqual(content_at(picture, one + other, cell), content)
                    self.assertEqual((content.sides, content.base), (sides, base))
                    self.assertEqual(picture_from(sides, base, content.form), content)

    def test_cells_of_depth_1_are_the_first_row(self):
        for sides, base in KINDS:
            for picture in sample_pictures(sides, base, 4):
                for part in range(base ** sides):
                    content = content_at(picture, 1, (part % base, part // base)[:sides])
                    if not picture.form or picture.form[0][part] == -1:
                        self.assertEqual(content, empty_picture(sides, base))
                    else:
                        self.assertNotEqual(content.form, ())

    def test_cells_on_the_rim_and_blank_cells(self):
        quarter = Picture(Book("plane 2\nkind e\n# .\n. ."), "e")
        left = Picture(Book("plane 2\nkind a\na .\na ."), "a")
        upper = Picture(Book("plane 2\nkind a\na a\n. ."), "a")
        self.assertEqual(content_at(quarter, 1, (1, 0)), left)
        self.assertEqual(content_at(quarter, 1, (0, 1)), upper)
        self.assertEqual(content_at(quarter, 1, (1, 1)), single_point(2, ((0, 1), (0, 1))))
        self.assertEqual(content_at(quarter, 2, (2, 1)), left)
        self.assertEqual(content_at(quarter, 2, (3, 0)), empty_picture(2, 2))
        for depth in (1, 2, 7):
            last = 2 ** depth - 1
            self.assertEqual(content_at(left, depth, (0, last)), left)
            self.assertEqual(content_at(left, depth, (last, 0)), empty_picture(2, 2))

    def test_at_depth_200(self):
        last = 2 ** 200 - 1
        self.assertEqual(content_at(FALLING, 200, (0, 0)), FALLING)
        self.assertEqual(content_at(FALLING, 200, (last, last)), FALLING)
        self.assertEqual(content_at(FALLING, 200, (last // 3, last // 3)), FALLING)
        self.assertEqual(content_at(FALLING, 200, (last // 3 + 1, last // 3)), single_point(2, ((0, 1), (1, 1))))
        self.assertEqual(content_at(FALLING, 200, (last, 0)), empty_picture(2, 2))
        third = single_point(3, ((1, 2),))
        self.assertEqual(content_at(third, 200, ((3 ** 200 - 1) // 2,)), third)
        self.assertEqual(content_at(whole_picture(2, 4), 200, (4 ** 200 - 1, 0)), whole_picture(2, 4))

    def test_depths_that_are_none(self):
        for depth in no_integers() + (-1, 201, HUGE, -HUGE):
            check_refused(self, BadNumber, depth, content_at, FALLING, depth, (0, 0))
            check_refused(self, BadNumber, depth, content_at, FALLING, depth, None)

    def test_cells_that_are_none(self):
        plane = no_tuples() + ((), (0,), (0, 0, 0), (4, 0), (0, 4), (-1, 0), (0, -1), (HUGE, 0), (True, 0), (0, False),
                               (0, None), (0, "0"), ((0,), 0), ([0], 0), ((0, 0), (0, 0)))
        for cell in plane:
            check_refused(self, BadCell, cell, content_at, FALLING, 2, cell)
        line = whole_picture(1, 3)
        for cell in no_tuples() + ((), (0, 0), (9,), (-1,), (True,), (None,), ("0",), ((0,),), (HUGE,)):
            check_refused(self, BadCell, cell, content_at, line, 2, cell)
        check_refused(self, BadCell, (1,), content_at, line, 0, (1,))
        self.assertEqual(content_at(line, 2, (8,)), line)
        end = (2 ** 200, 0)
        check_refused(self, BadCell, end, content_at, FALLING, 200, end)


class SinglePointTest(unittest.TestCase):

    def points(self):
        draw = random.Random(74)
        for base in (2, 3, 4):
            for number in NUMBERS:
                yield base, (number,)
            ends = [Fraction(0), Fraction(1), Fraction(1, base), Fraction(base - 1, base), Fraction(1, base ** 2)]
            for point in product(ends, repeat=2):
                yield base, point
            for point in some_points(draw, 2, 40, SMALL) + some_points(draw, 2, 10):
                yield base, point

    def test_it_has_just_this_point(self):
        draw = random.Random(75)
        for base, point in self.points():
            picture = single_point(base, written(point))
            self.assertEqual((picture.sides, picture.base), (len(point), base))
            self.assertIs(has_point(picture, written(point)), True)
            for other in some_points(draw, len(point), 4):
                self.assertEqual(has_point(picture, written(other)), other == point)
            for places in (first_point(picture), last_point(picture)):
                self.assertEqual(tuple(fraction_of(base, place) for place in places), written(point))

    def test_its_contents_lie_where_the_point_lies(self):
        for base, point in self.points():
            picture = single_point(base, written(point))
            for depth in (1, 2):
                for cell in product(range(base ** depth), repeat=len(point)):
                    place = tuple(number * base ** depth - step for number, step in zip(point, cell))
                    content = content_at(picture, depth, cell)
                    if all(0 <= number <= 1 for number in place):
                        self.assertEqual(content, single_point(base, written(place)))
                    else:
                        self.assertEqual(content.form, ())
                if len(point) == 2 and base > 2:
                    break

    def test_its_form_is_one(self):
        for base, point in self.points():
            form = single_point(base, written(point)).form
            if len(form) <= 200:
                self.assertEqual(picture_from(len(point), base, form).form, form)

    def test_forms_that_are_told_out(self):
        self.assertEqual(single_point(2, ((0, 1),)).form, ((0, -1),))
        self.assertEqual(single_point(3, ((1, 1),)).form, ((-1, -1, 0),))
        self.assertEqual(single_point(3, ((1, 2),)).form, ((-1, 0, -1),))
        self.assertEqual(single_point(2, ((1, 3),)).form, ((1, -1), (-1, 0)))
        self.assertEqual(single_point(2, ((1, 2),)).form, ((1, 2), (-1, 1), (2, -1)))
        self.assertEqual(single_point(2, ((1, 1), (0, 1))).form, ((-1, 0, -1, -1),))
        middle = ((1, 2, 3, 4), (-1, -1, -1, 1), (-1, -1, 2, -1), (-1, 3, -1, -1), (4, -1, -1, -1))
        self.assertEqual(single_point(2, ((1, 2), (1, 2))).form, middle)

    def test_as_a_book_draws_it(self):
        two = "plane 2\nkind a\n. .\nb .\nkind b\n. a\n. ."
        self.assertEqual(Picture(Book(two), "a"), single_point(2, ((1, 3), (2, 3))))
        self.assertEqual(Picture(Book("line 4\nkind a\n. a . ."), "a"), single_point(4, ((1, 3),)))

    def test_long_rings_and_greatest_lows(self):
        self.assertEqual(len(single_point(2, ((1, 59),))), 58)
        self.assertEqual(len(single_point(3, ((1, 53),))), 52)
        self.assertEqual(len(single_point(2, ((1, 59), (58, 59)))), 58)
        self.assertEqual(len(single_point(2, ((1, 60),))), 2 + 4)

    def test_bases_that_are_none(self):
        for base in no_integers() + (0, 1, 5, -2, HUGE):
            check_refused(self, BadNumber, base, single_point, base, ((0, 1),))
            check_refused(self, BadNumber, base, single_point, base, None)

    def test_points_that_are_none(self):
        for point in no_points():
            check_refused(self, BadPoint, point, single_point, 2, point)


def no_points():
    """What is a point neither of a plane nor of a line."""
    numbers = NOTHINGS + (0, 1, HUGE, (), (1,), (0, 2), (2, 4), (1, 61), (1, 120), (-1, 2), (3, 2), (1, 0), (0, 0), (1, -2),
                          (-1, -2), (1, 2, 3), [1, 2], (True, 2), (1, True), (1, HUGE), (HUGE, 1), ("1", 2))
    told = [(), ((0, 1),) * 3, (0, 1), (1, 2), ((0, 1), [1, 2]), [(0, 1)], [(0, 1), (0, 1)]] + list(no_tuples())
    for number in numbers:
        told.extend([(number,), (number, (1, 2)), ((1, 2), number)])
    return told
