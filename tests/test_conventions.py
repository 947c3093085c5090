"""Section 2: arguments by position and by name, nothing changed, equal results of equal calls."""

import unittest
from copy import deepcopy

from selfdrawn.books import Book, drawn_cells
from selfdrawn.motions import back_motion, cell_under, joint_motion, point_under
from tests.helpers import error_of

TEXT = "plane 2\nkind a\na b/4\n. #\nkind b\n# .\n. a"
CALLS = (
    (joint_motion, ("sides", "one", "other"), (2, 1, 4)),
    (back_motion, ("sides", "one"), (2, 1)),
    (point_under, ("sides", "motion", "point"), (2, 1, ((1, 4), (0, 1)))),
    (cell_under, ("sides", "size", "motion", "cell"), (2, 4, 3, (0, 1))),
    (drawn_cells, ("book", "name", "depth"), (Book(TEXT), "a", 2)),
    (Book, ("text",), (TEXT,)),
)


class ArgumentsTest(unittest.TestCase):

    def test_by_name(self):
        for call, names, values in CALLS:
            told = call(*values)
            self.assertEqual(call(**dict(zip(names, values))), told)
            self.assertEqual(call(**dict(reversed(list(zip(names, values))))), told)
            self.assertEqual(call(values[0], **dict(zip(names[1:], values[1:]))), told)

    def test_errors_by_name_too(self):
        self.assertEqual(error_of(cell_under, cell=None, motion=9, size=0, sides=2).value, 0)
        self.assertEqual(error_of(drawn_cells, depth=9, name="c", book=Book(TEXT)).value, "c")
        self.assertEqual(error_of(joint_motion, other=9, one=8, sides=2).value, 8)

    def test_equal_calls_return_equal_results(self):
        for call, _, values in CALLS:
            first = call(*values)
            self.assertEqual(call(*values), first)
            self.assertEqual(call(*deepcopy(values)), first)

    def test_equal_books_draw_the_same(self):
        for name in ("a", "b"):
            for depth in range(6):
                self.assertEqual(drawn_cells(Book(TEXT), name, depth), drawn_cells(Book(TEXT), name, depth))


class UnchangedTest(unittest.TestCase):

    def test_books_are_not_changed(self):
        book = Book(TEXT)
        held = deepcopy(vars(book))
        drawn_cells(book, "a", 5)
        drawn_cells(book, "b", 0)
        error_of(drawn_cells, book, "c", 1)
        error_of(drawn_cells, book, "a", 6)
        self.assertEqual((len(book), "a" in book, book == Book(TEXT)), (2, True, True))
        self.assertEqual(vars(book), held)

    def test_refused_arguments_are_not_changed(self):
        for value in ([1, [2]], {"a": [1]}, ([1], [2]), [[0, 1], [1, 2]]):
            held = deepcopy(value)
            for call, _, values in CALLS:
                for place in range(1 if call is drawn_cells else 0, len(values)):
                    self.assertIsNotNone(error_of(call, *values[:place], value, *values[place + 1:]))
            self.assertEqual(value, held)
