"""Section 10: shadow_of and slanted_shadow."""

import random
import unittest
from fractions import Fraction
from itertools import product

from selfdrawn.beside import is_within
from selfdrawn.books import Book
from selfdrawn.cuts import cut_at, slanted_cut
from selfdrawn.errors import BadAxis, BadNumber, BadSides
from selfdrawn.making import crossed_lines, joined_pictures, met_pictures, turned_picture
from selfdrawn.pictures import Picture, empty_picture, single_point, whole_picture
from selfdrawn.points import bounding_box, first_point, has_point, last_point
from selfdrawn.shadows import shadow_of, slanted_shadow
from tests.helpers import HUGE, check_refused, error_of
from tests.samples import NUMBERS, SMALL, sample_books, sample_pictures, some_points, written
from tests.slow import Drawing
from tests.test_making import is_one_form
from tests.values import LINE, PLANE, no_integers

BASES = (2, 3, 4)
FACTORS = list(product((1, 2, 3), repeat=2))
# With more contents the sets of them can be too many.
FEW = 12


class ShadowTest(unittest.TestCase):

    def test_points_of_pictures(self):
        draw = random.Random(171)
        for base in BASES:
            found = 0
            for book, name in sample_books(2, base, 8, 30):
                drawing = Drawing(book)
                shadows = [shadow_of(Picture(book, name), axis) for axis in (0, 1)]
                for axis in (0, 1):
                    self.assertEqual((shadows[axis].sides, shadows[axis].base), (1, base))
                    is_one_form(self, shadows[axis])
                for point in drawing.likely_points(draw, name, 20):
                    if drawing.has(name, point):
                        found += 1
                        for axis in (0, 1):
                            self.assertTrue(has_point(shadows[axis], written((point[axis],))))
            self.assertGreater(found, 60)

    def test_exactly_where_cuts_are_not_empty(self):
        draw = random.Random(172)
        for base in BASES:
            found = [0, 0]
            for picture in sample_pictures(2, base, 6, 30):
                for axis in (0, 1):
                    shadow = shadow_of(picture, axis)
                    for number in draw.sample(NUMBERS, 12) + [Fraction(step, base) for step in range(base + 1)]:
                        there = cut_at(picture, axis, (number.numerator, number.denominator)).form != ()
                        found[there] += 1
                        self.assertEqual(has_point(shadow, written((number,))), there)
            self.assertTrue(min(found) > 20, found)

    def test_as_drawn_columns_tell(self):
        for base, depth in ((2, 9), (3, 5), (4, 4)):
            for book, name in sample_books(2, base, 6, 30):
                picture = Picture(book, name)
                columns = Drawing(book).columns(name, depth)
                shadow = shadow_of(picture, 0)
                there = set(cells_of_line(shadow, depth))
                self.assertTrue(set(columns) <= there)
                self.assertTrue(all({cell - 1, cell, cell + 1} & set(columns) for cell in there))

    def test_joined_and_met(self):
        draw = random.Random(173)
        for base in BASES:
            pictures = sample_pictures(2, base, 4, FEW)
            for _ in range(8):
                one, other = draw.choice(pictures), draw.choice(pictures)
                for axis in (0, 1):
                    pair = shadow_of(one, axis), shadow_of(other, axis)
                    self.assertEqual(shadow_of(joined_pictures(one, other), axis), joined_pictures(*pair))
                    met = shadow_of(met_pictures(one, other), axis)
                    self.assertEqual(is_within(met, met_pictures(*pair)), ("within",))

    def test_crossed_lines(self):
        for base in BASES:
            for one, other in product(sample_pictures(1, base, 3), repeat=2):
                plane = crossed_lines(one, other)
                empty = empty_picture(1, base)
                self.assertEqual(shadow_of(plane, 0), one if other.form else empty)
                self.assertEqual(shadow_of(plane, 1), other if one.form else empty)

    def test_within_its_crossed_shadows(self):
        for base in BASES:
            for picture in sample_pictures(2, base, 6, 30):
                shadows = [shadow_of(picture, axis) for axis in (0, 1)]
                self.assertEqual(is_within(picture, crossed_lines(*shadows)), ("within",))
                if picture.form:
                    ends = [(first_point(shadow)[0], last_point(shadow)[0]) for shadow in shadows]
                    self.assertEqual(bounding_box(picture), tuple(ends))

    def test_empty_and_whole_planes(self):
        for base in BASES:
            for axis in (0, 1):
                self.assertEqual(shadow_of(empty_picture(2, base), axis), empty_picture(1, base))
                self.assertEqual(shadow_of(whole_picture(2, base), axis), whole_picture(1, base))

    def test_turned_planes(self):
        for base in BASES:
            for picture in sample_pictures(2, base, 4, 30):
                level, upright = shadow_of(picture, 0), shadow_of(picture, 1)
                ends = (
                    (level, upright), (turned_picture(upright, 1), level),
                    (turned_picture(level, 1), turned_picture(upright, 1)), (upright, turned_picture(level, 1)),
                    (turned_picture(level, 1), upright), (turned_picture(upright, 1), turned_picture(level, 1)),
                    (level, turned_picture(upright, 1)), (upright, level),
                )
                for motion, pair in enumerate(ends):
                    turned = turned_picture(picture, motion)
                    self.assertEqual((shadow_of(turned, 0), shadow_of(turned, 1)), pair)

    def test_single_points(self):
        draw = random.Random(174)
        for base in BASES:
            for point in some_points(draw, 2, 12, SMALL):
                picture = single_point(base, written(point))
                for axis in (0, 1):
                    self.assertEqual(shadow_of(picture, axis), single_point(base, written((point[axis],))))


def cells_of_line(line, depth):
    """The cells of this depth that meet a line, as numbers."""
    cells = {0: 0} if line.form else {}
    for _ in range(depth):
        cells = {
            line.base * cell + step: part
            for cell, number in cells.items() for step, part in enumerate(line.form[number]) if part != -1
        }
    return sorted(cells)


class SlantedShadowTest(unittest.TestCase):

    def check_sums(self, picture, p, q, sums, lines):
        """Check sums, Fractions from 0 to p + q, by the slanted cut with this sum."""
        found = [0, 0]
        for total in sums:
            there = slanted_cut(picture, -p, q, (total.numerator, total.denominator)).form != ()
            for whole, line in enumerate(lines):
                if whole <= total <= whole + 1:
                    found[there] += 1
                    self.assertEqual(has_point(line, written((total - whole,))), there)
        return found

    def test_as_slanted_cuts_tell(self):
        draw = random.Random(175)
        for base in BASES:
            found = [0, 0]
            for picture in sample_pictures(2, base, 3, FEW):
                for p, q in draw.sample(FACTORS, 3):
                    lines = slanted_shadow(picture, p, q)
                    sums = [Fraction(draw.randrange(12 * (p + q) + 1), 12) for _ in range(8)]
                    sums += [Fraction(whole) for whole in range(p + q + 1)]
                    told = self.check_sums(picture, p, q, sums, lines)
                    found = [one + more for one, more in zip(found, told)]
            self.assertTrue(min(found) > 20, found)

    def test_points_of_pictures_with_each_p_and_q(self):
        draw = random.Random(176)
        for base in BASES:
            for book, name in sample_books(2, base, 2, FEW):
                drawing = Drawing(book)
                points = [point for point in drawing.likely_points(draw, name, 8) if drawing.has(name, point)]
                for p, q in FACTORS:
                    lines = slanted_shadow(Picture(book, name), p, q)
                    self.assertEqual((type(lines), len(lines)), (tuple, p + q))
                    for x, y in points:
                        total = p * x + q * y
                        for whole, line in enumerate(lines):
                            if whole <= total <= whole + 1 and total.denominator <= 60:
                                self.assertTrue(has_point(line, written((total - whole,))), (book.text, p, q, x, y))

    def test_lines_are_one_form(self):
        for base in BASES:
            for picture in sample_pictures(2, base, 3, FEW):
                for line in slanted_shadow(picture, 2, 1):
                    self.assertEqual((line.sides, line.base), (1, base))
                    is_one_form(self, line)

    def test_single_points(self):
        draw = random.Random(177)
        for base in BASES:
            for x, y in some_points(draw, 2, 12, SMALL):
                p, q = draw.choice(FACTORS)
                total = p * x + q * y
                lines = slanted_shadow(single_point(base, written((x, y))), p, q)
                for whole, line in enumerate(lines):
                    if not whole <= total <= whole + 1:
                        self.assertEqual(line, empty_picture(1, base))
                    elif total.denominator <= 60:
                        self.assertEqual(line, single_point(base, written((total - whole,))))

    def test_whole_sums_are_in_two_lines(self):
        zero, one = ((0, 1),), ((1, 1),)
        for base in BASES:
            middle = single_point(base, ((1, 2), (1, 2)))
            self.assertEqual(slanted_shadow(middle, 1, 1), (single_point(base, one), single_point(base, zero)))
            told = slanted_shadow(middle, 3, 1)
            self.assertEqual(told[1:3], (single_point(base, one), single_point(base, zero)))
            self.assertEqual([told[0].form, told[3].form], [(), ()])
            corners = [single_point(base, ((x, 1), (y, 1))) for x, y in ((0, 0), (1, 0), (0, 1), (1, 1))]
            for (p, q), (corner, total) in product(FACTORS, zip(corners, ("0", "p", "q", "pq"))):
                whole = {"0": 0, "p": p, "q": q, "pq": p + q}[total]
                lines = slanted_shadow(corner, p, q)
                for number, line in enumerate(lines):
                    if number == whole:
                        self.assertEqual(line, single_point(base, zero))
                    elif number == whole - 1:
                        self.assertEqual(line, single_point(base, one))
                    else:
                        self.assertEqual(line, empty_picture(1, base))

    def test_empty_and_whole_planes(self):
        for base in BASES:
            for p, q in FACTORS:
                self.assertEqual(slanted_shadow(empty_picture(2, base), p, q), (empty_picture(1, base),) * (p + q))
                self.assertEqual(slanted_shadow(whole_picture(2, base), p, q), (whole_picture(1, base),) * (p + q))

    def test_exchanged_and_opposite(self):
        for base in BASES:
            for picture in sample_pictures(2, base, 2, FEW):
                for p, q in ((1, 1), (1, 2), (3, 1)):
                    lines = slanted_shadow(picture, p, q)
                    self.assertEqual(slanted_shadow(turned_picture(picture, 7), q, p), lines)
                    opposite = tuple(turned_picture(line, 1) for line in lines[::-1])
                    self.assertEqual(slanted_shadow(turned_picture(picture, 2), p, q), opposite)

    def test_joined_pictures(self):
        for base in BASES:
            one, other = sample_pictures(2, base, 2, FEW)[-2:]
            for p, q in ((1, 1), (2, 1)):
                pairs = zip(slanted_shadow(one, p, q), slanted_shadow(other, p, q))
                told = tuple(joined_pictures(*pair) for pair in pairs)
                self.assertEqual(slanted_shadow(joined_pictures(one, other), p, q), told)

    def test_slanted_lines_have_one_sum(self):
        rising = Picture(Book("plane 2\nkind a\n. a\na ."), "a")
        told = slanted_shadow(rising, 1, 1)
        self.assertEqual(told, (single_point(2, ((1, 1),)), single_point(2, ((0, 1),))))
        ends = [single_point(2, ((1, 1),)), single_point(2, ((0, 1),))]
        self.assertEqual(slanted_shadow(rising, 1, 2), (ends[0], whole_picture(1, 2), ends[1]))
        self.assertEqual([line.form for line in slanted_shadow(rising, 3, 3)][::5], [(), ()])


class RefusedTest(unittest.TestCase):

    def test_lines_ahead_of_all_else(self):
        for line in (LINE, empty_picture(1, 2), whole_picture(1, 4)):
            for call, arguments in ((shadow_of, (0,)), (shadow_of, (None,)), (shadow_of, (True,)), (slanted_shadow, (1, 1)),
                                    (slanted_shadow, (0, 1)), (slanted_shadow, (1, None)), (slanted_shadow, ("a", "b"))):
                error = error_of(call, line, *arguments)
                self.assertEqual((type(error), error.value), (BadSides, 1))

    def test_axes_that_are_none(self):
        for axis in no_integers() + (-1, 2, 3, HUGE, -HUGE):
            check_refused(self, BadAxis, axis, shadow_of, PLANE, axis)
            check_refused(self, BadAxis, axis, shadow_of, empty_picture(2, 3), axis)

    def test_numbers_that_are_none(self):
        for number in no_integers() + (0, 4, -1, HUGE, -HUGE):
            check_refused(self, BadNumber, number, slanted_shadow, PLANE, number, 1)
            check_refused(self, BadNumber, number, slanted_shadow, PLANE, 1, number)
            check_refused(self, BadNumber, number, slanted_shadow, PLANE, number, "other")
            check_refused(self, BadNumber, number, slanted_shadow, empty_picture(2, 3), 3, number)
