"""Section 12: touching_point."""

import random
import unittest
from itertools import product

from selfdrawn.beside import meeting_place
from selfdrawn.books import Book
from selfdrawn.errors import BadOffset, Unlike
from selfdrawn.making import met_pictures, turned_picture
from selfdrawn.moves import moved_picture
from selfdrawn.pictures import Picture, empty_picture, single_point, whole_picture
from selfdrawn.pieces import touching_point
from selfdrawn.points import first_point, place_of
from tests.helpers import check_refused, error_of
from tests.samples import KINDS, sample_pictures
from tests.values import LINE, NOTHINGS, NUMBERS_OUT, PLANE, no_tuples


def offsets(sides):
    return list(product((-1, 0, 1), repeat=sides))


def moved_back(one, other, offset):
    """The first point of one that other has, moved by moved_picture."""
    return first_point(met_pictures(one, moved_picture(other, tuple((step, 1) for step in offset))))


class TouchingTest(unittest.TestCase):

    def test_all_offsets_both_ways_round(self):
        for sides, base in KINDS:
            found = {True: 0, False: 0}
            pictures = sample_pictures(sides, base, 3, 20)
            for one, other in zip(pictures, pictures[1:] + pictures[:3]):
                for offset in offsets(sides):
                    for pair in ((one, other), (other, one), (one, one)):
                        told = touching_point(*pair, offset)
                        self.assertEqual(told, moved_back(*pair, offset), offset)
                        found[told is None] += 1
            self.assertTrue(found[True] and found[False])

    def test_with_offset_0_it_is_the_first_common_point(self):
        for sides, base in KINDS:
            pictures = sample_pictures(sides, base, 4, 30)
            for one, other in zip(pictures, pictures[1:]):
                told = meeting_place(one, other)
                point = touching_point(one, other, (0,) * sides)
                self.assertEqual(point, told[1] if told[0] == "meet" else None)

    def test_the_other_way_round_with_the_opposite_offset(self):
        for sides, base in KINDS:
            pictures = sample_pictures(sides, base, 3, 20)
            for one, other in zip(pictures, pictures[2:]):
                for offset in offsets(sides):
                    back = tuple(-step for step in offset)
                    there = touching_point(one, other, offset)
                    self.assertEqual(there is None, touching_point(other, one, back) is None)

    def test_pictures_that_touch_in_one_corner_alone(self):
        places = {0: (0, 1), 1: (1, 1)}
        for base in (2, 3, 4):
            for corner in product((0, 1), repeat=2):
                one = single_point(base, tuple(places[step] for step in corner))
                for other_corner in product((0, 1), repeat=2):
                    other = single_point(base, tuple(places[step] for step in other_corner))
                    for offset in offsets(2):
                        meets = tuple(a + b for a, b in zip(other_corner, offset)) == corner
                        told = tuple(place_of(base, places[step]) for step in corner) if meets else None
                        self.assertEqual(touching_point(one, other, offset), told)

    def test_pictures_that_touch_along_a_side(self):
        for base in (2, 3, 4):
            whole = whole_picture(2, base)
            zero, last = ((), (0,)), ((), (base - 1,))
            told = [touching_point(whole, whole, offset) for offset in offsets(2)]
            self.assertEqual(told, [(zero, zero)] * 2 + [(zero, last), (zero, zero), (zero, zero), (zero, last)] +
                             [(last, zero), (last, zero), (last, last)])
            line = whole_picture(1, base)
            self.assertEqual([touching_point(line, line, (step,)) for step in (-1, 0, 1)], [(zero,), (zero,), (last,)])

    def test_points_of_sides_that_do_not_face_one_another(self):
        # Both have points on the side, but none of them in common.
        one = Picture(Book("plane 2\nkind a\n. .\n. b\nkind b\n. .\n. c\nkind c\n. c\n. c"), "a")
        other = Picture(Book("plane 2\nkind a\nb .\n. .\nkind b\nc .\n. .\nkind c\nc .\nc ."), "a")
        self.assertIsNone(touching_point(one, other, (1, 0)))
        self.assertIsNotNone(touching_point(one, turned_picture(other, 6), (1, 0)))
        self.assertEqual(touching_point(one, turned_picture(other, 6), (1, 0)), (((), (1,)), ((1, 1), (0,))))

    def test_empty_pictures(self):
        for sides, base in KINDS:
            blank, whole = empty_picture(sides, base), whole_picture(sides, base)
            for offset in offsets(sides):
                for pair in ((blank, whole), (whole, blank), (blank, blank)):
                    self.assertIsNone(touching_point(*pair, offset))

    def test_turned_along(self):
        draw = random.Random(220)
        for base in (2, 3, 4):
            pictures = sample_pictures(2, base, 3, 20)
            for one, other in zip(pictures, pictures[1:]):
                offset = draw.choice(offsets(2))
                # By motion 1 a step (x, y) becomes (-y, x).
                turned = (-offset[1], offset[0])
                told = touching_point(turned_picture(one, 1), turned_picture(other, 1), turned)
                self.assertEqual(told is None, touching_point(one, other, offset) is None)


class RefusedTouchingTest(unittest.TestCase):

    def test_offsets(self):
        for value in no_tuples() + ((), (0,), (0, 0, 0), (2, 0), (0, 2), (-2, 0), (0, -2), (True, 0), (0, False),
                                    (None, 0), ("0", 0), ((0, 1), (0, 1)), (0, [0])):
            check_refused(self, BadOffset, value, touching_point, PLANE, PLANE, value)
            check_refused(self, BadOffset, value, touching_point, empty_picture(2, 2), PLANE, value)
        for value in NOTHINGS + NUMBERS_OUT + ((), (0, 0), (2,), (-2,), (True,), (None,), 0, 1):
            check_refused(self, BadOffset, value, touching_point, LINE, LINE, value)

    def test_unlike_pictures(self):
        for one, other in ((PLANE, LINE), (LINE, PLANE), (PLANE, whole_picture(2, 3)), (LINE, whole_picture(1, 2))):
            for offset in ((0, 0), (0,), None, (9, 9)):
                raised = error_of(touching_point, one, other, offset)
                self.assertEqual((type(raised), raised.value), (Unlike, (other.sides, other.base)))
