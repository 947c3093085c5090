"""Section 6: first_point, last_point, bounding_box."""

import random
import unittest
from fractions import Fraction

from selfdrawn.books import Book
from selfdrawn.making import turned_picture
from selfdrawn.pictures import Picture, empty_picture, single_point, whole_picture
from selfdrawn.points import bounding_box, first_point, fraction_of, last_point, place_of
from tests.samples import KINDS, NUMBERS, sample_books, sample_pictures, some_points, written
from tests.slow import Drawing

ZERO = ((), (0,))
DEPTHS = {2: 10, 3: 6, 4: 5}


def numbers_of(base, places):
    return tuple(Fraction(*fraction_of(base, place)) for place in places)


def plane(text, name="a"):
    return Picture(Book(text), name)


class EndsTest(unittest.TestCase):

    def test_points_of_the_picture_lie_between_them(self):
        draw = random.Random(101)
        for sides, base in KINDS:
            for book, name in sample_books(sides, base, 16):
                drawing = Drawing(book)
                picture = Picture(book, name)
                first = numbers_of(base, first_point(picture))
                last = numbers_of(base, last_point(picture))
                self.assertTrue(drawing.has(name, first), book.text)
                self.assertTrue(drawing.has(name, last), book.text)
                box = [numbers_of(base, pair) for pair in bounding_box(picture)]
                self.assertEqual(box[0], (first[0], last[0]))
                for point in drawing.likely_points(draw, name, 12) + some_points(draw, sides, 6):
                    if drawing.has(name, point):
                        self.assertTrue(first <= point <= last, (book.text, point))
                        self.assertTrue(all(least <= number <= most for number, (least, most) in zip(point, box)))

    def test_as_near_as_cells_tell(self):
        for sides, base in KINDS:
            depth = DEPTHS[base]
            for book, name in sample_books(sides, base, 8):
                drawing = Drawing(book)
                picture = Picture(book, name)
                columns = drawing.columns(name, depth)
                for told, column in ((first_point(picture), columns[0]), (last_point(picture), columns[-1])):
                    number = numbers_of(base, told)[0]
                    self.assertTrue(column <= number * base ** depth <= column + 1, book.text)
                if sides == 2:
                    self.check_rows(drawing, name, picture, depth)

    def check_rows(self, drawing, name, picture, depth):
        base = picture.base
        first = numbers_of(base, first_point(picture))
        last = numbers_of(base, last_point(picture))
        row = drawing.rows_with(name, first[0], depth)[0]
        self.assertTrue(row <= first[1] * base ** depth <= row + 1)
        row = drawing.rows_with(name, last[0], depth)[-1]
        self.assertTrue(row <= last[1] * base ** depth <= row + 1)

    def test_all_that_is_told_are_places(self):
        for sides, base in KINDS:
            for picture in sample_pictures(sides, base, 6):
                if picture.form:
                    for told in (first_point(picture), last_point(picture)) + bounding_box(picture):
                        self.assertIs(type(told), tuple)
                        for place in told:
                            top, low = fraction_of(base, place)
                            self.assertTrue(0 <= top <= low)
                    self.assertEqual(len(first_point(picture)), sides)
                    self.assertEqual([len(pair) for pair in bounding_box(picture)], [2] * sides)

    def test_turned_pictures_have_turned_ends(self):
        for sides, base in KINDS:
            for picture in sample_pictures(sides, base, 6)[1:]:
                opposite = turned_picture(picture, 2 if sides == 2 else 1)
                first = numbers_of(base, first_point(picture))
                self.assertEqual(numbers_of(base, last_point(opposite)), tuple(1 - number for number in first))
                if sides == 2:
                    box = bounding_box(picture)
                    self.assertEqual(bounding_box(turned_picture(picture, 7)), (box[1], box[0]))

    def test_empty_pictures(self):
        for sides, base in KINDS:
            empty = empty_picture(sides, base)
            self.assertEqual([first_point(empty), last_point(empty), bounding_box(empty)], [None, None, None])
            self.assertEqual(first_point(Picture(Book("line 2\nkind a\n. b\nkind b\n. ."), "a")), None)

    def test_whole_pictures(self):
        for sides, base in KINDS:
            whole = whole_picture(sides, base)
            one = ((), (base - 1,))
            self.assertEqual(first_point(whole), (ZERO,) * sides)
            self.assertEqual(last_point(whole), (one,) * sides)
            self.assertEqual(bounding_box(whole), ((ZERO, one),) * sides)

    def test_single_points(self):
        draw = random.Random(102)
        for base in (2, 3, 4):
            points = [(number,) for number in NUMBERS] + some_points(draw, 2, 60)
            for point in points:
                picture = single_point(base, written(point))
                places = tuple(place_of(base, fraction) for fraction in written(point))
                self.assertEqual((first_point(picture), last_point(picture)), (places, places))
                self.assertEqual(bounding_box(picture), tuple((place, place) for place in places))

    def test_few_points(self):
        three = plane("plane 2\nkind a\n. c\nd d\nkind d\nd .\n. .\nkind c\n. .\n. c")
        # The points are (0, 1/2), (1/2, 1/2) and (1, 1/2).
        half = ((1,), (0,))
        self.assertEqual((first_point(three), last_point(three)), ((ZERO, half), (((), (1,)), half)))
        self.assertEqual(bounding_box(three), ((ZERO, ((), (1,))), (half, half)))

    def test_sides_alone(self):
        for base in (2, 3, 4):
            blank = " ".join(["."] * base)
            one = ((), (base - 1,))
            left = plane(f"plane {base}\nkind a" + ("\na" + blank[1:]) * base)
            self.assertEqual((first_point(left), last_point(left)), ((ZERO, ZERO), (ZERO, one)))
            self.assertEqual(bounding_box(left), ((ZERO, ZERO), (ZERO, one)))
            lower = turned_picture(left, 3)
            self.assertEqual((first_point(lower), last_point(lower)), ((ZERO, one), (one, one)))
            self.assertEqual(bounding_box(lower), ((ZERO, one), (one, one)))

    def test_slanted_sets(self):
        one = ((), (1,))
        falling = plane("plane 2\nkind a\na .\n. a")
        rising = plane("plane 2\nkind a\n. a\na .")
        self.assertEqual((first_point(falling), last_point(falling)), ((ZERO, ZERO), (one, one)))
        self.assertEqual((first_point(rising), last_point(rising)), ((ZERO, one), (one, ZERO)))
        self.assertEqual(bounding_box(rising), ((ZERO, one), (ZERO, one)))
        third = plane("plane 2\nkind a\n. b\nb .\nkind b\n. .\na .")
        self.assertEqual(numbers_of(2, first_point(third)), (Fraction(0), Fraction(1)))
        self.assertEqual(numbers_of(2, last_point(third)), (Fraction(2, 3), Fraction(1, 3)))

    def test_equal_x_the_least_and_the_greatest_y(self):
        two = plane("plane 2\nkind a\n. b\n. b\nkind b\n. c\nc .\nkind c\nc .\n. .")
        # In the right half b has the points (1/2, 1/2) and (1/2, 0) of its own square.
        self.assertEqual(numbers_of(2, first_point(two)), (Fraction(1, 2), Fraction(1, 4)))
        self.assertEqual(numbers_of(2, last_point(two)), (Fraction(3, 4), Fraction(1, 2)))

    def test_rings_of_many_kinds_with_one_x(self):
        # All points have x = 0; along it kinds come in rings of lengths 2, 3, 5 and 7, by which sets of them come in
        # a ring of 210.
        lengths = (2, 3, 5, 7)
        lines = ["plane 4", "kind a"] + [f"r{'bcde'[at]}a . . ." for at in range(4)]
        for at, length in enumerate(lengths):
            for step in range(length):
                end = f"r{'bcde'[at]}" + chr(97 + (step + 1) % length)
                row = "# . . ." if step == 0 else ". . . ."
                lines += [f"kind r{'bcde'[at]}" + chr(97 + step), f"{end} . . .", ". . . .", ". . . .", ". . . ." if at else row]
        picture = plane("\n".join(lines))
        self.assertEqual(first_point(picture), (ZERO, ZERO))
        self.assertEqual(bounding_box(picture)[0][0], ZERO)
