"""Section 4: texts that are no books, and the numbers that are told."""

import unittest

from selfdrawn.books import Book
from selfdrawn.errors import BadBook
from tests.helpers import error_of

PLANE = "plane 2\nkind a\n. #\na a/7"
LINE = "line 3\nkind a\n. # a/1"


class BadBookTest(unittest.TestCase):

    def refuses(self, text, number):
        error = error_of(Book, text)
        self.assertIs(type(error), BadBook, text)
        self.assertIs(type(error.value), int)
        self.assertEqual(error.value, number, text)

    def test_values_that_are_no_string(self):
        for value in (None, True, False, 0, 1, (), (PLANE,), [PLANE], ["plane 2"], {}, {PLANE: 1}, object(), Book(PLANE)):
            self.refuses(value, 0)

    def test_the_empty_string_has_one_line(self):
        self.refuses("", 1)

    def test_first_lines_that_are_none(self):
        wrong = (
            "plane", "line", "plane 1", "plane 5", "line 0", "plane 02", "plane +2", "plane -2", "plane 2 ", " plane 2",
            "plane  2", "plane 2 2", "Plane 2", "planes 2", "plane2", "2 plane", "kind a", "plane 2.", "plane two", " ",
            "plane 22", "plane\t2", "plane 2\r", "2", "plane 2 3",
        )
        for head in wrong:
            self.refuses(head, 1)
            self.refuses(head + "\nkind a\n. #\na a/7", 1)

    def test_an_empty_first_line(self):
        self.refuses("\n" + PLANE, 1)
        self.refuses("\n", 1)

    def test_no_kind_at_all(self):
        self.refuses("plane 2", 2)
        self.refuses("line 4", 2)

    def test_a_text_behind_its_last_line_feed(self):
        self.refuses("plane 2\n", 2)
        self.refuses("line 3\nkind a\n", 3)
        self.refuses(PLANE + "\n", 5)
        self.refuses(LINE + "\n", 4)

    def test_lines_of_kinds_that_are_none(self):
        wrong = (
            "kind", "kind ", "kind a ", "kind  a", " kind a", "kind a b", "kinds a", "Kind a", "kind A", "kind a1", "kind 1",
            "kind .", "kind #", "kind a/1", "kind abcdefghi", "kind plane", "kind line", "kind kind", "a", ". .", "",
            "plane 2", "line 2", "kind a_b", "kind a-b", "kind\ta", "kind `", "kind {",
        )
        for line in wrong:
            self.refuses("line 2\n" + line, 2)
            self.refuses("line 2\n" + line + "\n. .", 2)
            self.refuses("line 2\nkind b\n. .\n" + line + "\n. .", 4)

    def test_a_kind_told_twice(self):
        self.refuses("line 2\nkind a\n. .\nkind a\n. .", 4)
        self.refuses(PLANE + "\nkind b\n. .\n. .\nkind a\n. .\n. .", 8)

    def test_rows_that_are_none_in_a_plane(self):
        wrong = (
            "", " ", ".", ". . .", ".  .", ". . ", " . .", "a/0 .", "a/8 .", "a/9 .", "a/01 .", "a/1/1 .", "a/ .", "/1 .",
            "a//1 .", "a/-1 .", "a/+1 .", "a/a .", "a/10 .", "./1 .", "#/1 .", ".. .", "## #", "A .", "a1 .", "abcdefghi .",
            "abcdefghi/1 .", "plane .", "line .", "kind .", "kind a", "kind/1 .", "plane/2 .", "line/3 .", "* .", ".\t.",
            "a/1. .", ", .", "a/ 1",
        )
        for row in wrong:
            self.refuses("plane 2\nkind a\n" + row + "\n. .", 3)
            self.refuses("plane 2\nkind a\n. .\n" + row, 4)
            self.refuses("plane 2\nkind b\n. .\n. .\nkind a\n. .\n" + row + "\nkind c\n# #\n# #", 7)

    def test_rows_that_are_none_in_a_line(self):
        for row in ("a/2 .", "a/7 .", "a/0 .", "a/11 .", "a/1/1 .", "a/ .", ".", ". . .", ". ", "", "line .", "kind b"):
            self.refuses("line 2\nkind a\n" + row, 3)
            self.refuses("line 2\nkind b\n. .\nkind a\n" + row, 5)

    def test_a_word_too_few_or_too_many_at_each_base(self):
        for base in (2, 3, 4):
            for many in (base - 1, base + 1):
                row = " ".join(["."] * many)
                self.refuses(f"line {base}\nkind a\n{row}", 3)
                self.refuses(f"plane {base}\nkind a\n{row}", 3)

    def test_rows_too_many(self):
        self.refuses("plane 2\nkind a\n. .\n. .\n. .", 5)
        self.refuses("line 2\nkind a\n. .\n. .", 4)

    def test_rows_too_few_at_the_end(self):
        self.refuses("line 2\nkind a", 3)
        self.refuses("plane 2\nkind a", 3)
        self.refuses("plane 2\nkind a\n. .", 4)
        self.refuses("plane 4\nkind a\n. . . .\n. . . .\n. . . .", 6)
        self.refuses(PLANE + "\nkind b\n. .", 7)
        self.refuses(LINE + "\nkind b", 5)

    def test_rows_too_few_ahead_of_a_kind(self):
        self.refuses("plane 2\nkind a\n. .\nkind b\n. .\n. .", 4)
        self.refuses("line 2\nkind a\nkind b\n. .", 3)

    def test_a_word_that_names_no_kind(self):
        self.refuses("plane 2\nkind a\n. b\n. .", 3)
        self.refuses("plane 2\nkind a\n. a\n. b/3", 4)
        self.refuses("line 2\nkind a\nb .", 3)

    def test_the_first_line_with_a_word_that_names_no_kind(self):
        self.refuses("line 2\nkind a\nb a\nkind b\na c\nkind d\ne f", 5)
        self.refuses("plane 2\nkind a\n. a\n. .\nkind b\n. x/1\n. y", 6)

    def test_a_refused_line_ahead_of_a_word_that_names_no_kind(self):
        self.refuses("line 2\nkind a\nb .\nkind c\n. . .", 5)
        self.refuses("line 2\nkind a\nb .\nkind a\n. .", 4)
        self.refuses("plane 2\nkind a\n. b\n. c/8", 4)

    def test_a_missing_line_ahead_of_a_word_that_names_no_kind(self):
        self.refuses("line 2\nkind a\nb .\nkind c", 5)
        self.refuses("plane 2\nkind a\n. b", 4)

    def test_the_first_refused_line_is_told(self):
        self.refuses("plane 7\nkind A\n.", 1)
        self.refuses("plane 2\nkind A\n.", 2)
        self.refuses("plane 2\nkind a\n.\n.", 3)
