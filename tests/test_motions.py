"""Section 4: the table of motions and the four functions of motions.py."""

import unittest
from fractions import Fraction
from itertools import product

from selfdrawn.books import Book
from selfdrawn.errors import BadCell, BadMotion, BadNumber, BadPoint
from selfdrawn.motions import back_motion, cell_under, joint_motion, point_under
from tests.helpers import HUGE, MOTION_PAIRS, TABLES, check_refused, error_of, moved_cell, moved_numbers

NUMBERS = sorted({Fraction(top, low) for low in range(1, 8) for top in range(low + 1)})
GREAT = [Fraction(1, HUGE), Fraction(HUGE - 1, HUGE), Fraction(HUGE // 3, HUGE)]
NO_SIDES = (0, 3, -1, HUGE, True, False, None, "2", "", (), (2,), [2], {2: 2}, Book("line 2\nkind a\n. ."))
NO_MOTIONS = (-1, HUGE, -HUGE, True, False, None, "1", "", (), (1,), [1], {1: 1}, Book("line 2\nkind a\n. ."))


def written(numbers):
    return tuple((number.numerator, number.denominator) for number in numbers)


class TableTest(unittest.TestCase):

    def test_points_go_where_the_table_says(self):
        for sides, motion in MOTION_PAIRS:
            for numbers in product(NUMBERS, repeat=sides):
                moved = moved_numbers(sides, motion, numbers)
                self.assertEqual(point_under(sides, motion, written(numbers)), written(moved))

    def test_points_with_great_numbers(self):
        for sides, motion in MOTION_PAIRS:
            for numbers in product(GREAT + [Fraction(1)], repeat=sides):
                moved = moved_numbers(sides, motion, numbers)
                self.assertEqual(point_under(sides, motion, written(numbers)), written(moved))

    def test_the_table_row_by_row(self):
        point = ((1, 5), (1, 3))
        moved = [
            ((1, 5), (1, 3)), ((2, 3), (1, 5)), ((4, 5), (2, 3)), ((1, 3), (4, 5)),
            ((4, 5), (1, 3)), ((2, 3), (4, 5)), ((1, 5), (2, 3)), ((1, 3), (1, 5)),
        ]
        self.assertEqual([point_under(2, motion, point) for motion in range(8)], moved)
        self.assertEqual([point_under(1, motion, ((2, 7),)) for motion in (0, 1)], [((2, 7),), ((5, 7),)])

    def test_ends_of_the_stretch(self):
        self.assertEqual(point_under(1, 1, ((0, 1),)), ((1, 1),))
        self.assertEqual(point_under(1, 1, ((1, 1),)), ((0, 1),))
        self.assertEqual(point_under(1, 1, ((1, 2),)), ((1, 2),))

    def test_cells_go_along(self):
        for sides, motion in MOTION_PAIRS:
            for size in range(1, 6):
                for cell in product(range(size), repeat=sides):
                    self.assertEqual(cell_under(sides, size, motion, cell), moved_cell(sides, size, motion, cell))

    def test_cells_of_great_sizes(self):
        self.assertEqual(cell_under(1, HUGE, 1, (5,)), (HUGE - 6,))
        self.assertEqual(cell_under(2, HUGE, 1, (5, HUGE - 1)), (0, 5))
        self.assertEqual(cell_under(2, HUGE, 3, (5, 7)), (7, HUGE - 6))

    def test_one_cell_alone_stays(self):
        for sides, motion in MOTION_PAIRS:
            self.assertEqual(cell_under(sides, 1, motion, (0,) * sides), (0,) * sides)


class JointAndBackTest(unittest.TestCase):

    def test_joint_leads_as_one_and_then_other(self):
        point = ((1, 5), (1, 3))
        for sides in (1, 2):
            for one, other in product(range(len(TABLES[sides])), repeat=2):
                there = point_under(sides, other, point_under(sides, one, point[:sides]))
                self.assertEqual(point_under(sides, joint_motion(sides, one, other), point[:sides]), there)

    def test_joint_by_the_table(self):
        numbers = (Fraction(1, 5), Fraction(1, 3))
        for sides in (1, 2):
            for one, other in product(range(len(TABLES[sides])), repeat=2):
                first = moved_numbers(sides, one, numbers[:sides])
                joint = joint_motion(sides, one, other)
                self.assertEqual(
                    moved_numbers(sides, joint, numbers[:sides]), moved_numbers(sides, other, first)
                )

    def test_back_leads_back(self):
        for sides, motion in MOTION_PAIRS:
            self.assertEqual(joint_motion(sides, motion, back_motion(sides, motion)), 0)
            self.assertEqual(joint_motion(sides, back_motion(sides, motion), motion), 0)
        self.assertEqual([back_motion(2, motion) for motion in range(8)], [0, 3, 2, 1, 4, 5, 6, 7])
        self.assertEqual([back_motion(1, motion) for motion in range(2)], [0, 1])

    def test_mirrored_first_then_turned(self):
        for motion in range(4, 8):
            self.assertEqual(joint_motion(2, 4, motion - 4), motion)

    def test_results_are_plain_integers(self):
        for sides, motion in MOTION_PAIRS:
            self.assertIs(type(joint_motion(sides, motion, 0)), int)
            self.assertIs(type(back_motion(sides, motion)), int)


class RefusedTest(unittest.TestCase):

    def calls(self, sides=2, size=2, motion=0):
        """Each function with these arguments and others that stand."""
        whole = 1 if sides == 1 else 2
        return (
            (joint_motion, (sides, motion, 0)),
            (joint_motion, (sides, 0, motion)),
            (back_motion, (sides, motion)),
            (point_under, (sides, motion, ((0, 1),) * whole)),
            (cell_under, (sides, size, motion, (0,) * whole)),
        )

    def test_sides_that_are_none(self):
        for sides in NO_SIDES:
            for call, arguments in self.calls(sides=sides):
                check_refused(self, BadNumber, sides, call, *arguments)

    def test_motions_that_are_none(self):
        for sides in (1, 2):
            for motion in NO_MOTIONS + (2 if sides == 1 else 8,):
                for call, arguments in self.calls(sides=sides, motion=motion):
                    check_refused(self, BadMotion, motion, call, *arguments)

    def test_the_first_motions_too_great(self):
        for motion in (2, 3, 7, 8):
            for call, arguments in self.calls(sides=1, motion=motion):
                check_refused(self, BadMotion, motion, call, *arguments)
        for call, arguments in self.calls(sides=2, motion=8):
            check_refused(self, BadMotion, 8, call, *arguments)
        for call, arguments in self.calls(sides=2, motion=7) + self.calls(sides=1, motion=1):
            self.assertIsNone(error_of(call, *arguments))

    def test_sizes_that_are_none(self):
        for size in (0, -1, -HUGE, True, False, None, "3", "", (), (3,), [3], {3: 3}):
            check_refused(self, BadNumber, size, cell_under, 2, size, 0, (0, 0))
            check_refused(self, BadNumber, size, cell_under, 1, size, 0, (0,))

    def test_cells_that_are_none(self):
        cells = (
            (), (0,), (0, 0, 0), (3, 0), (0, 3), (-1, 0), (0, -1), [0, 0], [], {0: 0}, {0: 1, 1: 1}, None, True, 0, "00",
            (True, 0), (0, False), ("0", 0), (0, None), ((0,), 0), ([0], 0), (HUGE, 0), (0, -HUGE),
        )
        for cell in cells:
            check_refused(self, BadCell, cell, cell_under, 2, 3, 1, cell)
        for cell in ((), (0, 0), (3,), (-1,), [0], (True,), (None,), ("0",), 0, None, "0"):
            check_refused(self, BadCell, cell, cell_under, 1, 3, 1, cell)

    def test_points_that_are_none(self):
        good = (1, 2)
        wrong = (
            (2, 4), (0, 2), (0, 0), (1, 0), (3, 2), (2, 1), (-1, 2), (-1, 1), (1, -2), (-1, -2), (0, -1), (1,), (),
            (1, 2, 3), [1, 2], True, 0, 1, None, "12", "1/2", (True, 1), (1, True), (False, 1), (1, "2"), ("1", 2),
            (None, 2), (1, (2,)), {1: 2}, (HUGE, 1), (HUGE, HUGE), (2 * HUGE, 3 * HUGE),
        )
        for number in wrong:
            for point in ((number, good), (good, number)):
                check_refused(self, BadPoint, point, point_under, 2, 1, point)
            line_point = (number,)
            check_refused(self, BadPoint, line_point, point_under, 1, 1, line_point)

    def test_values_that_are_no_points_at_all(self):
        for sides in (1, 2):
            for value in (None, True, 0, "", "ab", (), [], [(0, 1)] * sides, {}, (1, 2, 3), ((0, 1),) * (3 - sides),
                          ((0, 1),) * 3, (0,) * sides):
                check_refused(self, BadPoint, value, point_under, sides, 0, value)


class OrderTest(unittest.TestCase):
    """Of several errors the one that is listed first."""

    def test_sides_first(self):
        check_refused(self, BadNumber, True, joint_motion, True, None, None)
        check_refused(self, BadNumber, "2", back_motion, "2", 9)
        check_refused(self, BadNumber, 0, point_under, 0, 9, None)
        check_refused(self, BadNumber, 3, cell_under, 3, 0, 9, None)

    def test_size_ahead_of_motion(self):
        check_refused(self, BadNumber, False, cell_under, 2, False, 9, None)

    def test_one_ahead_of_other(self):
        check_refused(self, BadMotion, 8, joint_motion, 2, 8, 9)
        check_refused(self, BadMotion, 2, joint_motion, 1, 2, None)

    def test_motion_ahead_of_point_and_cell(self):
        check_refused(self, BadMotion, 8, point_under, 2, 8, None)
        check_refused(self, BadMotion, -1, cell_under, 2, 3, -1, (3, 3))
