"""Section 4: drawn_cells."""

import random
import unittest
from itertools import product

from selfdrawn.books import Book, drawn_cells
from selfdrawn.errors import BadName, BadNumber
from tests.helpers import HUGE, check_refused, moved_cell
from tests.slow import joint

DEEPEST = {2: 5, 3: 3, 4: 2}


def index_under(sides, base, motion, place):
    """The index in a block of the cell that the motion moves to this place."""
    for index in range(base ** sides):
        cell = (index % base, index // base)[:sides]
        if moved_cell(sides, base, motion, cell) == place:
            return index
    raise AssertionError(place)


def what_at(book, kind, depth, cell):
    """What draws a cell, by following its figures from depth 0 on: None, "full" or (kind, motion)."""
    what = (kind, 0)
    for level in range(depth - 1, -1, -1):
        if what is None or what == "full":
            return what
        place = tuple(number // book.base ** level % book.base for number in cell)
        motion = what[1]
        what = book.blocks[what[0]][index_under(book.sides, book.base, motion, place)]
        if what is not None and what != "full":
            what = (what[0], joint(book.sides, what[1], motion))
    return what


def some_book(draw, sides, base, many):
    names = ["k" + chr(97 + number) for number in range(many)]
    marks = [""] + [f"/{motion}" for motion in range(1, 8 if sides == 2 else 2)]
    lines = ["plane " if sides == 2 else "line "]
    lines[0] += str(base)
    for name in names:
        lines.append("kind " + name)
        for _ in range(base if sides == 2 else 1):
            words = [".", "#"] + [draw.choice(names) + draw.choice(marks) for _ in range(4)]
            lines.append(" ".join(draw.choice(words) for _ in range(base)))
    return Book("\n".join(lines))


class DrawnTest(unittest.TestCase):

    def test_as_each_cell_is_followed_from_above(self):
        draw = random.Random(4)
        for sides, base in product((1, 2), (2, 3, 4)):
            for many in (1, 2, 3, 5):
                book = some_book(draw, sides, base, many)
                for kind, depth in product(range(many), range(3)):
                    cells = product(range(base ** depth), repeat=sides)
                    pairs = [(cell, what_at(book, kind, depth, cell)) for cell in cells]
                    told = tuple((cell, what) for cell, what in pairs if what is not None)
                    self.assertEqual(drawn_cells(book, book.names[kind], depth), told, (book.text, kind, depth))

    def test_at_the_deepest_depths(self):
        draw = random.Random(9)
        for sides, base in product((1, 2), (2, 3, 4)):
            book = some_book(draw, sides, base, 3)
            depth = DEEPEST[base]
            cells = product(range(base ** depth), repeat=sides)
            pairs = [(cell, what_at(book, 0, depth, cell)) for cell in cells]
            told = tuple((cell, what) for cell, what in pairs if what is not None)
            self.assertEqual(drawn_cells(book, "ka", depth), told, book.text)

    def test_depth_0_is_the_kind_in_motion_0(self):
        book = Book("plane 2\nkind a\n. .\n. .\nkind b\n# #\n# #")
        self.assertEqual(drawn_cells(book, "a", 0), (((0, 0), (0, 0)),))
        self.assertEqual(drawn_cells(book, "b", 0), (((0, 0), (1, 0)),))
        self.assertEqual(drawn_cells(Book("line 3\nkind a\n. . ."), "a", 0), (((0,), (0, 0)),))

    def test_blank_cells_are_cut_into_blank_ones(self):
        for base, depth in DEEPEST.items():
            book = Book(f"line {base}\nkind a" + "\n" + " ".join(["."] * base))
            for deep in range(1, depth + 1):
                self.assertEqual(drawn_cells(book, "a", deep), ())

    def test_full_cells_are_cut_into_full_ones(self):
        book = Book("plane 2\nkind a\n. #\n. .")
        self.assertEqual(drawn_cells(book, "a", 1), (((1, 0), "full"),))
        cells = tuple(((column, row), "full") for column in (2, 3) for row in (0, 1))
        self.assertEqual(drawn_cells(book, "a", 2), cells)
        self.assertEqual(len(drawn_cells(book, "a", 5)), 256)

    def test_a_full_block_to_the_greatest_depth(self):
        for base, depth in DEEPEST.items():
            row = " ".join(["#"] * base)
            plane = Book(f"plane {base}\nkind a" + ("\n" + row) * base)
            size = base ** depth
            told = tuple(((column, row), "full") for column in range(size) for row in range(size))
            self.assertEqual(drawn_cells(plane, "a", depth), told)
            line = Book(f"line {base}\nkind a\n{row}")
            self.assertEqual(drawn_cells(line, "a", depth), tuple(((column,), "full") for column in range(size)))

    def test_ascending_by_column_and_then_row(self):
        book = Book("plane 3\nkind a\na . a/2\n# a/5 .\n. # a/1")
        cells = [cell for cell, _ in drawn_cells(book, "a", 3)]
        self.assertEqual(cells, sorted(set(cells)))

    def test_motions_one_behind_another(self):
        book = Book("plane 2\nkind a\nb/1 .\n. .\nkind b\n. c/4\n. .\nkind c\n# .\nc/3 .")
        self.assertEqual(drawn_cells(book, "a", 1), (((0, 0), (1, 1)),))
        self.assertEqual(drawn_cells(book, "a", 2), (((1, 1), (2, 5)),))
        self.assertEqual(drawn_cells(book, "a", 3), (((2, 3), (2, 6)), ((3, 3), "full")))

    def test_mirrored_lines(self):
        book = Book("line 2\nkind a\na/1 #")
        self.assertEqual(drawn_cells(book, "a", 1), (((0,), (0, 1)), ((1,), "full")))
        self.assertEqual(
            drawn_cells(book, "a", 2), (((0,), "full"), ((1,), (0, 0)), ((2,), "full"), ((3,), "full"))
        )

    def test_the_kind_that_is_told_is_drawn(self):
        book = Book("line 2\nkind a\n. #\nkind b\n# .\nkind c\na b")
        self.assertEqual(drawn_cells(book, "a", 1), (((1,), "full"),))
        self.assertEqual(drawn_cells(book, "b", 1), (((0,), "full"),))
        self.assertEqual(drawn_cells(book, "c", 1), (((0,), (0, 0)), ((1,), (1, 0))))

    def test_results_are_tuples(self):
        told = drawn_cells(Book("plane 2\nkind a\na #\n. ."), "a", 1)
        self.assertIs(type(told), tuple)
        for pair in told:
            self.assertIs(type(pair), tuple)
            self.assertIs(type(pair[0]), tuple)


class RefusedTest(unittest.TestCase):

    def test_names_that_are_none(self):
        book = Book("line 2\nkind a\n. a\nkind bc\n# a")
        for name in ("b", "c", "", "A", "kind", "a/1", ".", None, True, 0, 1, (), ("a",), ["a"], {"a": 1}, book):
            check_refused(self, BadName, name, drawn_cells, book, name, 1)

    def test_depths_that_are_none(self):
        book = Book("line 2\nkind a\n. a")
        for depth in (-1, -HUGE, HUGE, True, False, None, "1", "", (), (1,), [1], {1: 1}, book):
            check_refused(self, BadNumber, depth, drawn_cells, book, "a", depth)

    def test_one_deeper_than_the_greatest_depth(self):
        for base, depth in DEEPEST.items():
            row = " ".join(["a"] * base)
            for text in (f"line {base}\nkind a\n{row}", f"plane {base}\nkind a" + ("\n" + row) * base):
                book = Book(text)
                self.assertEqual(len(drawn_cells(book, "a", depth)), base ** (depth * book.sides))
                check_refused(self, BadNumber, depth + 1, drawn_cells, book, "a", depth + 1)

    def test_name_ahead_of_depth(self):
        check_refused(self, BadName, "b", drawn_cells, Book("line 2\nkind a\n. a"), "b", -1)
        check_refused(self, BadName, None, drawn_cells, Book("line 2\nkind a\n. a"), None, None)
