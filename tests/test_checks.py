"""Section 2: what an integer, a fraction, a name, a point and a cell is."""

import unittest

from selfdrawn.books import Book
from selfdrawn.checks import (
    is_cell, is_fraction, is_fraction_in, is_kind_name, is_name, is_point, is_whole, is_whole_in,
)
from tests.helpers import HUGE

STRANGE = (None, True, False, "", "1", (), (1,), [], [1], [1, 2], {}, {1: 2}, Book("line 2\nkind a\n. ."))


class ChecksTest(unittest.TestCase):

    def test_integers(self):
        for value in (0, 1, -1, 7, HUGE, -HUGE):
            self.assertIs(is_whole(value), True)
        for value in STRANGE:
            self.assertIs(is_whole(value), False)
            self.assertIs(is_whole_in(value, 0, 1), False)
        self.assertEqual([is_whole_in(value, -1, 2) for value in range(-2, 4)], [False, True, True, True, True, False])

    def test_fractions(self):
        for value in ((0, 1), (1, 1), (1, 2), (-3, 2), (7, 1), (HUGE, 1), (1, HUGE), (-HUGE, HUGE + 1)):
            self.assertIs(is_fraction(value), True, value)
        wrong = (
            (0, 2), (2, 4), (1, 0), (0, 0), (1, -2), (-1, -1), (0, -1), (True, 2), (1, True), (1, 2, 3), ("1", 2), [1, 2],
        )
        for value in STRANGE + wrong:
            self.assertIs(is_fraction(value), False, value)
            self.assertIs(is_fraction_in(value, -HUGE, HUGE), False, value)

    def test_fractions_within_bounds(self):
        for value in ((-3, 1), (6, 1), (0, 1), (-35, 12), (71, 12)):
            self.assertIs(is_fraction_in(value, -3, 6), True, value)
        for value in ((-4, 1), (7, 1), (-37, 12), (73, 12)):
            self.assertIs(is_fraction_in(value, -3, 6), False, value)

    def test_names(self):
        for value in ("a", "z", "abcdefgh", "plane", "line", "kind", "m"):
            self.assertIs(is_name(value), True, value)
        for value in STRANGE + ("abcdefghi", "A", "a1", "a ", "`", "{", "a.b", ("a", "b"), ["a"]):
            self.assertIs(is_name(value), False, value)
            self.assertIs(is_kind_name(value), False, value)
        self.assertEqual([is_kind_name(value) for value in ("plane", "line", "kind", "planes")], [False] * 3 + [True])

    def test_points(self):
        self.assertIs(is_point(((0, 1), (1, 1)), 2), True)
        self.assertIs(is_point(((1, HUGE),), 1), True)
        for value in STRANGE + (((0, 1),) * 3, ((0, 1), (3, 2)), ((-1, 2), (0, 1)), [(0, 1), (0, 1)]):
            self.assertIs(is_point(value, 2), False, value)

    def test_cells(self):
        self.assertIs(is_cell((0, 2), 2, 3), True)
        self.assertIs(is_cell((HUGE,), 1, HUGE + 1), True)
        for value in STRANGE + ((0, 3), (-1, 0), (0, True), (0, 0, 0), [0, 0]):
            self.assertIs(is_cell(value, 2, 3), False, value)
