"""Section 8: turned, joined, met, put together, taken apart, crossed, at the other base."""

import random
import unittest
from itertools import product

from selfdrawn.books import Book
from selfdrawn.errors import BadMotion, BadPictures, BadSides, NoBase, Unlike
from selfdrawn.making import (
    crossed_lines, joined_pictures, met_pictures, other_base, parts_of, put_together, turned_picture,
)
from selfdrawn.motions import back_motion, joint_motion
from selfdrawn.pictures import Picture, content_at, empty_picture, picture_from, single_point, whole_picture
from selfdrawn.points import has_point
from tests.helpers import TABLES, check_refused, error_of
from tests.samples import KINDS, SMALL, sample_books, sample_pictures, some_points, written
from tests.slow import Drawing
from tests.values import LINE, NOTHINGS, NUMBERS_OUT, PLANE, no_integers


def is_one_form(case, picture):
    """Check that what was made has a form that leads back to it."""
    if len(picture) <= 200:
        case.assertEqual(picture_from(picture.sides, picture.base, picture.form), picture)


class TurnedTest(unittest.TestCase):

    def test_points_go_where_the_motion_leads_them(self):
        draw = random.Random(131)
        for sides, base in KINDS:
            for book, name in sample_books(sides, base, 8):
                drawing = Drawing(book)
                picture = Picture(book, name)
                for motion in range(len(TABLES[sides])):
                    turned = turned_picture(picture, motion)
                    is_one_form(self, turned)
                    for point in drawing.likely_points(draw, name, 4) + some_points(draw, sides, 2, SMALL):
                        moved = written(TABLES[sides][motion](*point))
                        self.assertEqual(has_point(turned, moved), drawing.has(name, point), (book.text, motion))

    def test_as_books_draw_it_in_a_motion(self):
        for sides, base in KINDS:
            for book, name in sample_books(sides, base, 4):
                for motion in range(1, len(TABLES[sides])):
                    row = " ".join(["."] * base)
                    rows = [row] * base if sides == 2 else [row]
                    text = book.text + "\nkind zz\n" + "\n".join([rows[0].replace(".", f"{name}/{motion}", 1)] + rows[1:])
                    parts = [turned_picture(Picture(book, name), motion)] + [empty_picture(sides, base)] * (base ** sides - 1)
                    self.assertEqual(Picture(Book(text), "zz"), put_together(tuple(parts)))

    def test_one_behind_another_and_back(self):
        for sides, base in KINDS:
            motions = range(len(TABLES[sides]))
            for picture in sample_pictures(sides, base, 2):
                self.assertEqual(turned_picture(picture, 0), picture)
                for one, other in product(motions, repeat=2):
                    twice = turned_picture(turned_picture(picture, one), other)
                    self.assertEqual(twice, turned_picture(picture, joint_motion(sides, one, other)))
                for one in motions:
                    self.assertEqual(turned_picture(turned_picture(picture, one), back_motion(sides, one)), picture)

    def test_motions_that_are_none(self):
        for motion in no_integers() + NUMBERS_OUT + (8, 9):
            check_refused(self, BadMotion, motion, turned_picture, PLANE, motion)
        for motion in no_integers() + NUMBERS_OUT + (2, 3, 7, 8):
            check_refused(self, BadMotion, motion, turned_picture, LINE, motion)
            check_refused(self, BadMotion, motion, turned_picture, empty_picture(1, 2), motion)


class JoinedAndMetTest(unittest.TestCase):

    def test_by_points(self):
        draw = random.Random(132)
        for sides, base in KINDS:
            counts = {}
            books = sample_books(sides, base, 6)
            for _ in range(20):
                (book, name), (other, beside) = draw.choice(books), draw.choice(books)
                one, two = Drawing(book), Drawing(other)
                pair = Picture(book, name), Picture(other, beside)
                joined, met = joined_pictures(*pair), met_pictures(*pair)
                is_one_form(self, joined)
                is_one_form(self, met)
                points = one.likely_points(draw, name, 6) + two.likely_points(draw, beside, 6)
                for point in points + some_points(draw, sides, 4, SMALL):
                    told = one.has(name, point), two.has(beside, point)
                    counts[told] = counts.get(told, 0) + 1
                    self.assertEqual(has_point(joined, written(point)), any(told))
                    self.assertEqual(has_point(met, written(point)), all(told))
            self.assertTrue(len(counts) == 4 and min(counts.values()) > 2, counts)

    def test_rules_of_sets(self):
        draw = random.Random(133)
        for sides, base in KINDS:
            pictures = sample_pictures(sides, base, 3, 30)
            for _ in range(8):
                a, b, c = [draw.choice(pictures) for _ in range(3)]
                self.assertEqual([joined_pictures(a, b), met_pictures(a, b)], [joined_pictures(b, a), met_pictures(b, a)])
                self.assertEqual([joined_pictures(a, a), met_pictures(a, a)], [a, a])
                self.assertEqual(joined_pictures(a, met_pictures(a, b)), a)
                self.assertEqual(met_pictures(a, joined_pictures(a, b)), a)
                one = joined_pictures(met_pictures(a, b), met_pictures(a, c))
                self.assertEqual(met_pictures(a, joined_pictures(b, c)), one)
                self.assertEqual(
                    joined_pictures(joined_pictures(a, b), c), joined_pictures(a, joined_pictures(b, c))
                )

    def test_with_empty_and_whole_pictures(self):
        for sides, base in KINDS:
            empty, whole = empty_picture(sides, base), whole_picture(sides, base)
            for picture in sample_pictures(sides, base, 4):
                self.assertEqual([joined_pictures(picture, empty), met_pictures(picture, empty)], [picture, empty])
                self.assertEqual([joined_pictures(empty, picture), met_pictures(empty, picture)], [picture, empty])
                self.assertEqual([joined_pictures(picture, whole), met_pictures(whole, picture)], [whole, picture])

    def test_turning_goes_over_to_joined_and_met(self):
        draw = random.Random(134)
        for sides, base in KINDS:
            pictures = sample_pictures(sides, base, 3, 30)
            for _ in range(6):
                one, other = draw.choice(pictures), draw.choice(pictures)
                motion = draw.randrange(len(TABLES[sides]))
                pair = turned_picture(one, motion), turned_picture(other, motion)
                self.assertEqual(turned_picture(joined_pictures(one, other), motion), joined_pictures(*pair))
                self.assertEqual(turned_picture(met_pictures(one, other), motion), met_pictures(*pair))

    def test_a_seam_alone_in_common(self):
        book = Book("plane 2\nkind a\n# .\n# .\nkind b\n. #\n. #\nkind c\n. d\n. d\nkind d\nd .\nd .")
        left, right, seam = [Picture(book, name) for name in "abc"]
        self.assertEqual(met_pictures(left, right), seam)
        self.assertEqual(joined_pictures(left, right), whole_picture(2, 2))

    def test_pairs_that_are_not_alike_in_kind(self):
        for one, other in product(KINDS, repeat=2):
            for call, make in product((joined_pictures, met_pictures), (empty_picture, whole_picture)):
                error = error_of(call, make(*one), make(*other))
                if one == other:
                    self.assertIsNone(error)
                else:
                    self.assertEqual((type(error), error.value), (Unlike, other))


class PutTogetherTest(unittest.TestCase):

    def test_there_and_back(self):
        for sides, base in KINDS:
            for picture in sample_pictures(sides, base, 8):
                parts = parts_of(picture)
                self.assertEqual((type(parts), len(parts)), (tuple, base ** sides))
                for at, part in enumerate(parts):
                    self.assertEqual(part, content_at(picture, 1, (at % base, at // base)[:sides]))
                self.assertEqual(put_together(parts), picture)

    def test_by_points(self):
        draw = random.Random(135)
        for sides, base in KINDS:
            pictures = sample_pictures(sides, base, 6, 12)
            found = [0, 0]
            for _ in range(6):
                chosen = tuple(draw.choice(pictures) for _ in range(base ** sides))
                whole = put_together(chosen)
                is_one_form(self, whole)
                for point in some_points(draw, sides, 12, SMALL):
                    told = False
                    for at, picture in enumerate(chosen):
                        cell = (at % base, at // base)[:sides]
                        place = tuple(base * number - step for number, step in zip(point, cell))
                        if all(0 <= number <= 1 for number in place):
                            told = told or has_point(picture, written(place))
                    found[told] += 1
                    self.assertEqual(has_point(whole, written(point)), told)
            self.assertTrue(min(found) > 3, found)

    def test_each_part_with_what_lies_beside_it(self):
        draw = random.Random(136)
        for sides, base in KINDS:
            pictures = sample_pictures(sides, base, 4, 12)
            for _ in range(3):
                chosen = tuple(draw.choice(pictures) for _ in range(base ** sides))
                parts = parts_of(put_together(chosen))
                for at, part in enumerate(parts):
                    cell = (at % base, at // base)[:sides]
                    self.assertEqual(joined_pictures(part, chosen[at]), part)
                    for point in some_points(draw, sides, 6, SMALL):
                        if 0 < min(point) and max(point) < 1:
                            self.assertEqual(has_point(part, written(point)), has_point(chosen[at], written(point)))
                        else:
                            told = self.told_beside(chosen, base, cell, point)
                            self.assertEqual(has_point(part, written(point)), told)

    def told_beside(self, chosen, base, cell, point):
        """Whether this point of a cell is in the picture of some cell, by all cells that have it."""
        for at, picture in enumerate(chosen):
            other = (at % base, at // base)[:len(cell)]
            place = tuple(number + here - there for number, here, there in zip(point, cell, other))
            if all(0 <= number <= 1 for number in place) and has_point(picture, written(place)):
                return True
        return False

    def test_as_a_book_puts_them_together(self):
        for sides, base in KINDS:
            for book, name in sample_books(sides, base, 4):
                chosen = [Picture(book, kind) for kind in book.names] + [empty_picture(sides, base), whole_picture(sides, base)]
                words = list(book.names) + [".", "#"]
                draw = random.Random(137)
                turns = [draw.randrange(len(words)) for _ in range(base ** sides)]
                rows = [" ".join(words[turn] for turn in turns[at:at + base]) for at in range(0, len(turns), base)]
                text = book.text + "\nkind zz\n" + "\n".join(rows)
                self.assertEqual(put_together(tuple(chosen[turn] for turn in turns)), Picture(Book(text), "zz"))

    def test_empty_and_whole_ones(self):
        for sides, base in KINDS:
            for make in (empty_picture, whole_picture):
                picture = make(sides, base)
                self.assertEqual(parts_of(picture), (picture,) * base ** sides)
                self.assertEqual(put_together((picture,) * base ** sides), picture)

    def test_what_is_no_tuple_of_pictures(self):
        for value in NOTHINGS + NUMBERS_OUT + ((), (1,), (1, 2, 3, 4), "abcd", (None,) * 4):
            check_refused(self, BadPictures, value, put_together, value)
        for sides, base in KINDS:
            whole = whole_picture(sides, base)
            many = base ** sides
            wrong = [[whole] * many, (whole,) * (many - 1), (whole,) * (many + 1), (whole,), whole, {0: whole}]
            for at in (0, 1, many - 1):
                for other in (None, 1, True, "a", [whole], (whole,), whole.form, Book("line 2\nkind a\n. .")):
                    wrong.append((whole,) * at + (other,) + (whole,) * (many - at - 1))
                for unlike in KINDS:
                    if unlike != (sides, base):
                        wrong.append((whole,) * at + (empty_picture(*unlike),) + (whole,) * (many - at - 1))
            for value in wrong:
                check_refused(self, BadPictures, value, put_together, value)

    def test_the_number_of_pictures_is_that_of_their_base(self):
        for value in ((whole_picture(2, 2),) * 9, (whole_picture(1, 2),) * 4, (whole_picture(2, 4),) * 4):
            check_refused(self, BadPictures, value, put_together, value)
        self.assertEqual(put_together((whole_picture(1, 4),) * 4), whole_picture(1, 4))


class CrossedTest(unittest.TestCase):

    def test_by_points_at_each_base(self):
        draw = random.Random(138)
        for base in (2, 3, 4):
            books = sample_books(1, base, 6)
            found = [0, 0]
            for _ in range(20):
                (book, name), (other, beside) = draw.choice(books), draw.choice(books)
                one, two = Drawing(book), Drawing(other)
                plane = crossed_lines(Picture(book, name), Picture(other, beside))
                self.assertEqual((plane.sides, plane.base), (2, base))
                is_one_form(self, plane)
                points = [x + y for x, y in zip(one.likely_points(draw, name, 5), two.likely_points(draw, beside, 5))]
                for point in points + some_points(draw, 2, 5, SMALL):
                    told = one.has(name, point[:1]) and two.has(beside, point[1:])
                    found[told] += 1
                    self.assertEqual(has_point(plane, written(point)), told)
            self.assertTrue(min(found) > 20, found)

    def test_exchanged_and_turned(self):
        for base in (2, 3, 4):
            lines = sample_pictures(1, base, 3)
            for one, other in product(lines, repeat=2):
                plane = crossed_lines(one, other)
                self.assertEqual(turned_picture(plane, 7), crossed_lines(other, one))
                self.assertEqual(turned_picture(plane, 4), crossed_lines(turned_picture(one, 1), other))
                self.assertEqual(turned_picture(plane, 6), crossed_lines(one, turned_picture(other, 1)))

    def test_empty_whole_and_single_ones(self):
        for base in (2, 3, 4):
            empty, whole = empty_picture(1, base), whole_picture(1, base)
            self.assertEqual(crossed_lines(whole, whole), whole_picture(2, base))
            for line in sample_pictures(1, base, 2):
                self.assertEqual(crossed_lines(line, empty), empty_picture(2, base))
                self.assertEqual(crossed_lines(empty, line), empty_picture(2, base))
            point = single_point(base, ((1, 5), (2, 3)))
            self.assertEqual(crossed_lines(single_point(base, ((1, 5),)), single_point(base, ((2, 3),))), point)

    def test_planes_and_lines_of_other_bases(self):
        for one, other in product(KINDS, repeat=2):
            error = error_of(crossed_lines, whole_picture(*one), whole_picture(*other))
            if one[0] == 2 or other[0] == 2:
                self.assertEqual((type(error), error.value), (BadSides, 2))
            elif one != other:
                self.assertEqual((type(error), error.value), (Unlike, other))
            else:
                self.assertIsNone(error)


class OtherBaseTest(unittest.TestCase):

    def test_by_points(self):
        draw = random.Random(139)
        for sides, base in ((1, 2), (2, 2), (1, 4), (2, 4)):
            found = [0, 0]
            for book, name in sample_books(sides, base, 10):
                drawing = Drawing(book)
                other = other_base(Picture(book, name))
                self.assertEqual((other.sides, other.base), (sides, 6 - base))
                is_one_form(self, other)
                for point in drawing.likely_points(draw, name, 10) + some_points(draw, sides, 6):
                    told = drawing.has(name, point)
                    found[told] += 1
                    self.assertEqual(has_point(other, written(point)), told)
            self.assertTrue(min(found) > 30, found)

    def test_twice_is_the_same(self):
        for sides, base in ((1, 2), (2, 2), (1, 4), (2, 4)):
            for picture in sample_pictures(sides, base, 12):
                self.assertEqual(other_base(other_base(picture)), picture)

    def test_contents_of_two_depths(self):
        for sides in (1, 2):
            for picture in sample_pictures(sides, 2, 4):
                other = other_base(picture)
                for cell in product(range(4), repeat=sides):
                    self.assertEqual(other_base(content_at(picture, 2, cell)), content_at(other, 1, cell))

    def test_single_empty_and_whole_ones(self):
        for sides in (1, 2):
            for make in (empty_picture, whole_picture):
                self.assertEqual(other_base(make(sides, 2)), make(sides, 4))
                self.assertEqual(other_base(make(sides, 4)), make(sides, 2))
        for point in (((1, 3),), ((1, 2),), ((31, 60),), ((1, 2), (1, 4)), ((2, 3), (1, 1))):
            self.assertEqual(other_base(single_point(2, point)), single_point(4, point))
            self.assertEqual(other_base(single_point(4, point)), single_point(2, point))

    def test_base_3_has_no_other_one(self):
        for sides in (1, 2):
            for picture in sample_pictures(sides, 3, 2):
                error = error_of(other_base, picture)
                self.assertEqual((type(error), error.value), (NoBase, 3))
