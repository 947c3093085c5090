"""Section 9: moved_picture."""

import random
import unittest
from fractions import Fraction
from itertools import product

from selfdrawn.beside import is_within
from selfdrawn.books import Book
from selfdrawn.errors import BadMove
from selfdrawn.making import crossed_lines, joined_pictures, met_pictures, turned_picture
from selfdrawn.moves import moved_picture
from selfdrawn.pictures import Picture, empty_picture, single_point, whole_picture
from selfdrawn.points import has_point
from tests.helpers import HUGE, TABLES, check_refused
from tests.samples import KINDS, SMALL, sample_books, sample_pictures, some_points, written
from tests.slow import Drawing
from tests.test_making import is_one_form
from tests.values import LINE, NOTHINGS, NUMBERS_OUT, PLANE, no_tuples

MOVES = sorted({Fraction(top, low) for low in range(1, 13) for top in range(-low, low + 1)})
FEW_MOVES = [move for move in MOVES if move.denominator <= 4]


def moved(picture, by):
    return moved_picture(picture, written(by))


def some_move(draw, sides, moves=MOVES):
    return tuple(draw.choice(moves) for _ in range(sides))


def opposite(by):
    return tuple(-number for number in by)


def box_of(sides, base, by):
    """The picture of all points p of the square for which p + by is in it."""
    return moved(moved(whole_picture(sides, base), by), opposite(by))


class MovedTest(unittest.TestCase):

    def check_points(self, drawing, name, by, points):
        """Check points of a moved picture by where they come from; return how many it has, and how many not."""
        found = [0, 0]
        picture = moved(Picture(drawing.book, name), by)
        for point in points:
            back = tuple(number - step for number, step in zip(point, by))
            told = all(0 <= number <= 1 for number in back) and drawing.has(name, back)
            found[told] += 1
            self.assertEqual(has_point(picture, written(point)), told, (drawing.book.text, name, by, point))
        return found

    def points_for(self, draw, drawing, name, by):
        """Points of the square to which the move leads points of the picture, and others."""
        points = []
        for point in drawing.likely_points(draw, name, 25):
            end = tuple(number + step for number, step in zip(point, by))
            if all(0 <= number <= 1 and number.denominator <= 60 for number in end):
                points.append(end)
        return points + some_points(draw, drawing.sides, 6, SMALL)

    def test_by_points(self):
        draw = random.Random(151)
        for sides, base in KINDS:
            found = [0, 0]
            for book, name in sample_books(sides, base, 8):
                drawing = Drawing(book)
                for _ in range(3):
                    by = some_move(draw, sides)
                    told = self.check_points(drawing, name, by, self.points_for(draw, drawing, name, by))
                    found = [one + more for one, more in zip(found, told)]
            self.assertTrue(min(found) > 20, (sides, base, found))

    def test_each_low_to_both_sides(self):
        draw = random.Random(152)
        for sides, base in KINDS:
            books = sample_books(sides, base, 4)
            for low in range(1, 13):
                for sign in (1, -1):
                    by = tuple(sign * Fraction(draw.randrange(1, low + 1), low) for _ in range(sides))
                    book, name = draw.choice(books)
                    drawing = Drawing(book)
                    self.check_points(drawing, name, by, self.points_for(draw, drawing, name, by))

    def test_single_points(self):
        draw = random.Random(153)
        for sides, base in KINDS:
            for _ in range(25):
                point, by = some_points(draw, sides, 1, SMALL)[0], some_move(draw, sides)
                end = tuple(number + step for number, step in zip(point, by))
                picture = moved(single_point(base, written(point)), by)
                if not all(0 <= number <= 1 for number in end):
                    self.assertEqual(picture, empty_picture(sides, base))
                elif max(number.denominator for number in end) <= 60:
                    self.assertEqual(picture, single_point(base, written(end)))

    def test_what_is_made_is_one_form(self):
        draw = random.Random(154)
        for sides, base in KINDS:
            for picture in sample_pictures(sides, base, 4, 30):
                told = moved(picture, some_move(draw, sides))
                self.assertEqual((told.sides, told.base), (sides, base))
                is_one_form(self, told)

    def test_by_nothing(self):
        for sides, base in KINDS:
            for picture in sample_pictures(sides, base, 8):
                self.assertEqual(moved_picture(picture, ((0, 1),) * sides), picture)

    def test_by_a_whole_side(self):
        for base in (2, 3, 4):
            zero, one = single_point(base, ((0, 1),)), single_point(base, ((1, 1),))
            for line in sample_pictures(1, base, 6):
                left, right = has_point(line, ((0, 1),)), has_point(line, ((1, 1),))
                self.assertEqual(moved_picture(line, ((1, 1),)), one if left else empty_picture(1, base))
                self.assertEqual(moved_picture(line, ((-1, 1),)), zero if right else empty_picture(1, base))
            whole = whole_picture(1, base)
            for line in sample_pictures(1, base, 3):
                plane = crossed_lines(whole, line)
                self.assertEqual(moved_picture(plane, ((1, 1), (0, 1))), crossed_lines(one, line))
                self.assertEqual(moved_picture(plane, ((-1, 1), (0, 1))), crossed_lines(zero, line))

    def test_by_whole_sides_a_corner_is_left(self):
        for base in (2, 3, 4):
            for picture in sample_pictures(2, base, 5):
                for x, y in product((1, -1), repeat=2):
                    end = (((1 + x) // 2, 1), ((1 + y) // 2, 1))
                    begin = (((1 - x) // 2, 1), ((1 - y) // 2, 1))
                    told = single_point(base, end) if has_point(picture, begin) else empty_picture(2, base)
                    self.assertEqual(moved_picture(picture, ((x, 1), (y, 1))), told)

    def test_to_the_right_and_down(self):
        quarter = Picture(Book("plane 2\nkind a\n# .\n. ."), "a")
        right = Picture(Book("plane 2\nkind a\nb #\n. .\nkind b\n. b\n. b"), "a")
        self.assertEqual(moved_picture(quarter, ((1, 2), (0, 1))), right)
        lower = Picture(Book("plane 2\nkind a\n. .\n# ."), "a")
        self.assertEqual(moved_picture(quarter, ((0, 1), (1, 2))), lower)
        left = Picture(Book("plane 2\nkind a\nb .\n. .\nkind b\nb .\nb ."), "a")
        self.assertEqual(moved_picture(quarter, ((-1, 2), (0, 1))), left)
        upper = Picture(Book("plane 2\nkind a\nb .\n. .\nkind b\nb b\n. ."), "a")
        self.assertEqual(moved_picture(quarter, ((0, 1), (-1, 2))), upper)

    def test_empty_pictures(self):
        draw = random.Random(155)
        for sides, base in KINDS:
            for _ in range(6):
                self.assertEqual(moved(empty_picture(sides, base), some_move(draw, sides)), empty_picture(sides, base))

    def test_the_whole_is_moved_to_a_box(self):
        draw = random.Random(156)
        for sides, base in KINDS:
            for _ in range(6):
                by = some_move(draw, sides)
                picture = moved(whole_picture(sides, base), by)
                for point in some_points(draw, sides, 20):
                    told = all(0 <= number - step <= 1 for number, step in zip(point, by))
                    self.assertEqual(has_point(picture, written(point)), told)


class ForAllTest(unittest.TestCase):

    def test_there_and_back(self):
        draw = random.Random(157)
        for sides, base in KINDS:
            for picture in sample_pictures(sides, base, 5, 30):
                by = some_move(draw, sides)
                back = moved(moved(picture, by), opposite(by))
                self.assertEqual(back, met_pictures(picture, box_of(sides, base, by)))

    def test_back_to_itself_where_nothing_was_cut_off(self):
        draw = random.Random(158)
        for sides, base in KINDS:
            for picture in sample_pictures(sides, base, 5, 30):
                by = tuple(abs(step) for step in some_move(draw, sides))
                inside = met_pictures(picture, box_of(sides, base, by))
                self.assertEqual(moved(moved(inside, by), opposite(by)), inside)

    def test_two_moves_one_behind_the_other(self):
        draw = random.Random(159)
        for sides, base in KINDS:
            equal = 0
            pictures = sample_pictures(sides, base, 4, 12)
            for _ in range(16):
                picture = draw.choice(pictures)
                one, other = some_move(draw, sides, FEW_MOVES), some_move(draw, sides, FEW_MOVES)
                total = tuple(step + more for step, more in zip(one, other))
                if all(-1 <= step <= 1 and step.denominator <= 12 for step in total):
                    twice, at_once = moved(moved(picture, one), other), moved(picture, total)
                    self.assertEqual(is_within(twice, at_once), ("within",))
                    if all(step * more >= 0 for step, more in zip(one, other)):
                        self.assertEqual(twice, at_once)
                        equal += 1
            self.assertGreater(equal, 0)

    def test_there_and_back_can_cut_off(self):
        whole = whole_picture(1, 2)
        twice = moved_picture(moved_picture(whole, ((1, 2),)), ((-1, 2),))
        self.assertEqual(twice, Picture(Book("line 2\nkind a\n# ."), "a"))
        self.assertNotEqual(twice, moved_picture(whole, ((0, 1),)))

    def test_joined_and_met(self):
        draw = random.Random(160)
        for sides, base in KINDS:
            pictures = sample_pictures(sides, base, 4, 12)
            for _ in range(4):
                one, other = draw.choice(pictures), draw.choice(pictures)
                by = some_move(draw, sides)
                pair = moved(one, by), moved(other, by)
                self.assertEqual(moved(joined_pictures(one, other), by), joined_pictures(*pair))
                self.assertEqual(moved(met_pictures(one, other), by), met_pictures(*pair))

    def test_turned_and_mirrored_with_the_picture(self):
        draw = random.Random(161)
        for sides, base in KINDS:
            for picture in sample_pictures(sides, base, 3, 12):
                for motion in range(len(TABLES[sides])):
                    by = some_move(draw, sides, FEW_MOVES)
                    half = (Fraction(1, 2),) * sides
                    ends = TABLES[sides][motion](*[number + step for number, step in zip(half, by)])
                    turned = tuple(end - middle for end, middle in zip(ends, half))
                    told = turned_picture(moved(picture, by), motion)
                    self.assertEqual(moved(turned_picture(picture, motion), turned), told)


class BadMoveTest(unittest.TestCase):

    def test_what_is_no_move(self):
        numbers = NOTHINGS + NUMBERS_OUT + (
            (), (1,), (1, 13), (6, 13), (2, 4), (0, 2), (3, 2), (-3, 2), (2, 1), (-2, 1), (13, 12), (-13, 12), (1, 0), (0, 0),
            (1, -2), (-1, -2), (True, 2), (1, True), (False, 1), (1, 2, 3), [1, 2], [0, 1], ("1", 2), (1, None), (HUGE, 1),
            (1, HUGE), (HUGE, HUGE), 0, 1,
        )
        for number in numbers:
            line = (number,)
            check_refused(self, BadMove, line, moved_picture, LINE, line)
            for plane in ((number, (1, 2)), ((1, 2), number)):
                check_refused(self, BadMove, plane, moved_picture, PLANE, plane)
        for value in numbers + ((0, 1), (1, 2)):
            check_refused(self, BadMove, value, moved_picture, PLANE, value)
            check_refused(self, BadMove, value, moved_picture, LINE, value)
        for value in no_tuples():
            check_refused(self, BadMove, value, moved_picture, empty_picture(1, 2), value)

    def test_moves_of_the_wrong_length(self):
        for picture, lengths in ((PLANE, (0, 1, 3)), (LINE, (0, 2, 3))):
            for length in lengths:
                value = ((1, 2),) * length
                check_refused(self, BadMove, value, moved_picture, picture, value)
        for value in ([(1, 2)], [(1, 2), (1, 2)], ([1, 2], [1, 2]), ((1, 2), [1, 2])):
            check_refused(self, BadMove, value, moved_picture, PLANE, value)

    def test_the_outermost_moves(self):
        for number in ((1, 1), (-1, 1), (11, 12), (-11, 12), (0, 1), (1, 12), (-1, 12), (10, 11)):
            self.assertEqual(moved_picture(LINE, (number,)).base, 3)
            self.assertEqual(moved_picture(PLANE, (number, number)).sides, 2)
