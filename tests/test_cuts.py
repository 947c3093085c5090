"""Section 10: cut_at and slanted_cut."""

import random
import unittest
from fractions import Fraction
from itertools import product

from selfdrawn.books import Book
from selfdrawn.cuts import cut_at, slanted_cut
from selfdrawn.errors import BadAxis, BadFraction, BadNumber, BadSides
from selfdrawn.making import crossed_lines, joined_pictures, met_pictures, turned_picture
from selfdrawn.pictures import Picture, empty_picture, single_point, whole_picture
from selfdrawn.points import has_point
from tests.helpers import HUGE, check_refused, error_of
from tests.samples import NUMBERS, SMALL, fractions_with, sample_books, sample_pictures, some_points, written
from tests.slow import Drawing
from tests.test_making import is_one_form
from tests.values import LINE, NOTHINGS, NUMBERS_OUT, PLANE, no_integers

BASES = (2, 3, 4)
SLANTS = list(product(range(-3, 4), (1, 2, 3)))
TWELFTHS = [number for number in NUMBERS if number.denominator <= 12]


def fraction(number):
    return number.numerator, number.denominator


class CutTest(unittest.TestCase):

    def check(self, drawing, name, points):
        found = [0, 0]
        picture = Picture(drawing.book, name)
        for point in points:
            told = drawing.has(name, point)
            found[told] += 1
            for axis in (0, 1):
                line = cut_at(picture, axis, fraction(point[axis]))
                self.assertEqual(has_point(line, written((point[1 - axis],))), told, (drawing.book.text, axis, point))
        return found

    def test_by_points(self):
        draw = random.Random(181)
        for base in BASES:
            found = [0, 0]
            for book, name in sample_books(2, base, 10):
                drawing = Drawing(book)
                points = drawing.likely_points(draw, name, 10) + some_points(draw, 2, 6)
                found = [one + more for one, more in zip(found, self.check(drawing, name, points))]
            self.assertTrue(min(found) > 20, found)

    def test_on_seams_and_on_the_rim(self):
        draw = random.Random(182)
        for base in BASES:
            seams = [Fraction(step, base ** 2) for step in range(base ** 2 + 1)]
            for book, name in sample_books(2, base, 6):
                points = [(draw.choice(seams), draw.choice(SMALL)) for _ in range(6)]
                points += [(draw.choice(SMALL), draw.choice(seams)) for _ in range(6)]
                points += [(Fraction(end), draw.choice(SMALL)) for end in (0, 1)]
                self.check(Drawing(book), name, points)

    def test_rings_and_the_greatest_low(self):
        draw = random.Random(183)
        for base in BASES:
            for book, name in sample_books(2, base, 3, 30):
                points = [(Fraction(*draw.choice(fractions_with(low))), draw.choice(SMALL)) for low in (53, 59, 60)]
                self.check(Drawing(book), name, points)

    def test_what_is_cut_is_one_form(self):
        draw = random.Random(184)
        for base in BASES:
            for picture in sample_pictures(2, base, 4):
                for axis in (0, 1):
                    line = cut_at(picture, axis, fraction(draw.choice(SMALL)))
                    self.assertEqual((line.sides, line.base), (1, base))
                    is_one_form(self, line)

    def test_crossed_lines(self):
        draw = random.Random(185)
        for base in BASES:
            for one, other in product(sample_pictures(1, base, 3), repeat=2):
                plane = crossed_lines(one, other)
                number = fraction(draw.choice(SMALL))
                empty = empty_picture(1, base)
                self.assertEqual(cut_at(plane, 0, number), other if has_point(one, (number,)) else empty)
                self.assertEqual(cut_at(plane, 1, number), one if has_point(other, (number,)) else empty)

    def test_joined_and_met(self):
        draw = random.Random(186)
        for base in BASES:
            pictures = sample_pictures(2, base, 4, 30)
            for _ in range(8):
                one, other = draw.choice(pictures), draw.choice(pictures)
                axis, at = draw.choice((0, 1)), fraction(draw.choice(SMALL))
                pair = cut_at(one, axis, at), cut_at(other, axis, at)
                self.assertEqual(cut_at(joined_pictures(one, other), axis, at), joined_pictures(*pair))
                self.assertEqual(cut_at(met_pictures(one, other), axis, at), met_pictures(*pair))

    def test_turned_planes(self):
        draw = random.Random(187)
        for base in BASES:
            for picture in sample_pictures(2, base, 4, 30):
                number = draw.choice(SMALL)
                at, opposite = fraction(number), fraction(1 - number)
                self.assertEqual(cut_at(turned_picture(picture, 7), 1, at), cut_at(picture, 0, at))
                self.assertEqual(cut_at(turned_picture(picture, 4), 0, opposite), cut_at(picture, 0, at))
                self.assertEqual(cut_at(turned_picture(picture, 4), 1, at), turned_picture(cut_at(picture, 1, at), 1))
                self.assertEqual(cut_at(turned_picture(picture, 1), 1, at), turned_picture(cut_at(picture, 0, at), 1))

    def test_empty_and_whole_planes(self):
        for base in BASES:
            for axis, number in product((0, 1), SMALL):
                for make in (empty_picture, whole_picture):
                    self.assertEqual(cut_at(make(2, base), axis, fraction(number)), make(1, base))

    def test_single_points(self):
        draw = random.Random(188)
        for base in BASES:
            for point in some_points(draw, 2, 12, SMALL):
                picture = single_point(base, written(point))
                for axis in (0, 1):
                    told = cut_at(picture, axis, fraction(point[axis]))
                    self.assertEqual(told, single_point(base, written((point[1 - axis],))))
                    if point[axis] != Fraction(1, 7):
                        self.assertEqual(cut_at(picture, axis, (1, 7)), empty_picture(1, base))


class SlantedCutTest(unittest.TestCase):

    def check(self, drawing, name, p, q, at, numbers):
        """Check the points of a slanted cut at these x; return how many there are, and how many are missing."""
        found = [0, 0]
        line = slanted_cut(Picture(drawing.book, name), p, q, fraction(at))
        for x in numbers:
            y = (p * x + at) / q
            told = 0 <= y <= 1 and drawing.has(name, (x, y))
            found[told] += 1
            self.assertEqual(has_point(line, written((x,))), told, (drawing.book.text, name, p, q, at, x))
        return found

    def test_points_of_pictures_with_each_p_and_q(self):
        draw = random.Random(191)
        for base in BASES:
            found = [0, 0]
            books = sample_books(2, base, 6, 30)
            for p, q in SLANTS:
                for book, name in draw.sample(books, 3):
                    drawing = Drawing(book)
                    for x, y in drawing.likely_points(draw, name, 4):
                        at = q * y - p * x
                        if at.denominator <= 12:
                            told = self.check(drawing, name, p, q, at, [x, draw.choice(SMALL), Fraction(0), Fraction(1)])
                            found = [one + more for one, more in zip(found, told)]
            self.assertTrue(min(found) > 20, found)

    def test_each_at(self):
        draw = random.Random(192)
        for base in BASES:
            books = sample_books(2, base, 6, 30)
            for low in range(1, 13):
                for _ in range(4):
                    book, name = draw.choice(books)
                    p, q = draw.choice(SLANTS)
                    at = Fraction(draw.randrange(-3 * low, 6 * low + 1), low)
                    self.check(Drawing(book), name, p, q, at, draw.sample(SMALL, 6))

    def test_through_a_corner_and_past_the_square(self):
        for base in BASES:
            whole, empty = whole_picture(2, base), empty_picture(1, base)
            zero, one = single_point(base, ((0, 1),)), single_point(base, ((1, 1),))
            for p, q in SLANTS:
                # The line meets the square from the least of q * y - p * x, at a corner, to the greatest one.
                least, most = min(0, -p), max(q, q - p)
                if p > 0:
                    self.assertEqual(slanted_cut(whole, p, q, (least, 1)), one)
                    self.assertEqual(slanted_cut(whole, p, q, (most, 1)), zero)
                if p < 0:
                    self.assertEqual(slanted_cut(whole, p, q, (least, 1)), zero)
                    self.assertEqual(slanted_cut(whole, p, q, (most, 1)), one)
                for at in (Fraction(least) - Fraction(1, 12), Fraction(most) + Fraction(1, 12), Fraction(6), Fraction(-3)):
                    if -3 <= at <= 6 and not least <= at <= most:
                        self.assertEqual(slanted_cut(whole, p, q, fraction(at)), empty)

    def test_the_whole_plane(self):
        for base in BASES:
            for p, q in SLANTS:
                for at in (Fraction(-1, 2), Fraction(0), Fraction(1, 3), Fraction(7, 6), Fraction(5, 2)):
                    line = slanted_cut(whole_picture(2, base), p, q, fraction(at))
                    for x in SMALL:
                        self.assertEqual(has_point(line, written((x,))), 0 <= p * x + at <= q)

    def test_a_level_line_is_cut_at(self):
        draw = random.Random(193)
        for base in BASES:
            for picture in sample_pictures(2, base, 6):
                for number in [Fraction(0), Fraction(1), Fraction(1, 2)] + draw.sample(TWELFTHS, 4):
                    at = fraction(number)
                    self.assertEqual(slanted_cut(picture, 0, 1, at), cut_at(picture, 1, at))
                    if number * 3 == int(number * 3):
                        self.assertEqual(slanted_cut(picture, 0, 3, fraction(3 * number)), cut_at(picture, 1, at))

    def test_joined_and_met(self):
        draw = random.Random(194)
        for base in BASES:
            pictures = sample_pictures(2, base, 4, 12)
            for _ in range(8):
                one, other = draw.choice(pictures), draw.choice(pictures)
                p, q = draw.choice(SLANTS)
                at = fraction(Fraction(draw.randrange(-6, 13), 4))
                pair = slanted_cut(one, p, q, at), slanted_cut(other, p, q, at)
                self.assertEqual(slanted_cut(joined_pictures(one, other), p, q, at), joined_pictures(*pair))
                self.assertEqual(slanted_cut(met_pictures(one, other), p, q, at), met_pictures(*pair))

    def test_mirrored_planes(self):
        draw = random.Random(195)
        for base in BASES:
            for picture in sample_pictures(2, base, 4, 12):
                for p, q in draw.sample(SLANTS, 5):
                    at = Fraction(draw.randrange(0, 7), 3)
                    line = slanted_cut(picture, p, q, fraction(at))
                    # With 1 - x for x the line is q * y = -p * x + p + at, with 1 - y for y it is q * y = -p * x + q - at.
                    if -3 <= at + p <= 6:
                        mirrored = slanted_cut(turned_picture(picture, 4), -p, q, fraction(at + p))
                        self.assertEqual(mirrored, turned_picture(line, 1))
                    if -3 <= q - at <= 6:
                        self.assertEqual(slanted_cut(turned_picture(picture, 6), -p, q, fraction(q - at)), line)

    def test_what_is_cut_is_one_form(self):
        draw = random.Random(196)
        for base in BASES:
            for picture in sample_pictures(2, base, 4, 30):
                p, q = draw.choice(SLANTS)
                line = slanted_cut(picture, p, q, (1, 4))
                self.assertEqual((line.sides, line.base), (1, base))
                is_one_form(self, line)

    def test_empty_planes(self):
        for base in BASES:
            for p, q in SLANTS:
                self.assertEqual(slanted_cut(empty_picture(2, base), p, q, (1, 2)), empty_picture(1, base))

    def test_slanted_sets(self):
        falling = Picture(Book("plane 2\nkind a\na .\n. a"), "a")
        rising = Picture(Book("plane 3\nkind a\n. . a\n. a .\na . ."), "a")
        self.assertEqual(slanted_cut(falling, 1, 1, (0, 1)), whole_picture(1, 2))
        self.assertEqual(slanted_cut(falling, 3, 3, (0, 1)), whole_picture(1, 2))
        self.assertEqual(slanted_cut(falling, -1, 1, (1, 1)), single_point(2, ((1, 2),)))
        self.assertEqual(slanted_cut(rising, -1, 1, (1, 1)), whole_picture(1, 3))
        self.assertEqual(slanted_cut(rising, 2, 1, (0, 1)), single_point(3, ((1, 3),)))
        self.assertEqual(slanted_cut(falling, 1, 1, (1, 12)), empty_picture(1, 2))


class RefusedTest(unittest.TestCase):

    def test_lines_ahead_of_all_else(self):
        calls = (
            (cut_at, (0, (1, 2))), (cut_at, (2, (1, 2))), (cut_at, (None, None)), (cut_at, (0, 0)),
            (slanted_cut, (1, 1, (0, 1))), (slanted_cut, (4, 1, (0, 1))), (slanted_cut, (1, 0, (0, 1))),
            (slanted_cut, (1, 1, None)), (slanted_cut, (None, None, None)),
        )
        for line in (LINE, empty_picture(1, 2), whole_picture(1, 4)):
            for call, arguments in calls:
                error = error_of(call, line, *arguments)
                self.assertEqual((type(error), error.value), (BadSides, 1))

    def test_axes_that_are_none(self):
        for axis in no_integers() + (-1, 2, 3, HUGE, -HUGE):
            for at in ((1, 2), None, (1, 61)):
                check_refused(self, BadAxis, axis, cut_at, PLANE, axis, at)

    def test_numbers_that_are_none(self):
        for p in no_integers() + (-4, 4, HUGE, -HUGE):
            for q, at in ((1, (0, 1)), (0, (0, 1)), (None, None)):
                check_refused(self, BadNumber, p, slanted_cut, PLANE, p, q, at)
        for q in no_integers() + (0, -1, 4, HUGE, -HUGE):
            for at in ((0, 1), None):
                check_refused(self, BadNumber, q, slanted_cut, PLANE, -3, q, at)

    def test_fractions_that_are_none(self):
        both = NOTHINGS + NUMBERS_OUT + (
            (), (1,), (1, 2, 3), (2, 4), (0, 2), (1, 0), (0, 0), (1, -2), (-1, -2), (True, 2), (1, True), (False, 1), [1, 2],
            ("1", 2), (1, None), ((1,), 2), (HUGE, 1), (1, HUGE), (HUGE, HUGE), (-HUGE, 1), 0, 1,
        )
        for at in both + ((-1, 2), (3, 2), (2, 1), (1, 61), (60, 61), (61, 60), (-1, 60)):
            for axis in (0, 1):
                check_refused(self, BadFraction, at, cut_at, PLANE, axis, at)
        for at in both + ((1, 13), (1, 60), (-4, 1), (7, 1), (-37, 12), (73, 12), (12, 13)):
            for p, q in SLANTS:
                check_refused(self, BadFraction, at, slanted_cut, PLANE, p, q, at)

    def test_the_outermost_fractions(self):
        for at in ((-3, 1), (6, 1), (-35, 12), (71, 12), (0, 1)):
            self.assertEqual(slanted_cut(PLANE, 3, 1, at).sides, 1)
        for at in ((0, 1), (1, 1), (59, 60), (1, 60)):
            self.assertEqual(cut_at(PLANE, 1, at).sides, 1)
