"""Section 4: books that stand, and what they tell."""

import unittest

from selfdrawn.books import Book
from tests.helpers import error_of


def letters(number):
    """A name for a number, none of the reserved words."""
    return "x" + chr(97 + number // 26) + chr(97 + number % 26)


def many_kinds(head, rows, many):
    return "\n".join([head] + ["kind " + letters(number) + "\n" + rows for number in range(many)])


class HeadTest(unittest.TestCase):

    def test_planes_of_each_base(self):
        for base in (2, 3, 4):
            row = " ".join(["."] * base)
            book = Book(f"plane {base}\nkind a" + ("\n" + row) * base)
            self.assertEqual((book.sides, book.base, book.names), (2, base, ("a",)))
            self.assertEqual(book.blocks, ((None,) * (base * base),))

    def test_lines_of_each_base(self):
        for base in (2, 3, 4):
            book = Book(f"line {base}\nkind a\n" + " ".join(["#"] * base))
            self.assertEqual((book.sides, book.base, book.names), (1, base, ("a",)))
            self.assertEqual(book.blocks, (("full",) * base,))

    def test_attributes_are_set_on_the_object(self):
        text = "line 2\nkind a\n. a/1"
        held = vars(Book(text))
        told = [held[name] for name in ("text", "sides", "base", "names", "blocks")]
        self.assertEqual(told, [text, 1, 2, ("a",), ((None, (0, 1)),)])


class BlocksTest(unittest.TestCase):

    def test_cells_row_by_row_from_the_left(self):
        book = Book("plane 3\nkind a\n. # a\na/1 b a/2\n# b/7 .\nkind b\n# . .\n. # .\n. . a")
        self.assertEqual(book.blocks[0], (None, "full", (0, 0), (0, 1), (1, 0), (0, 2), "full", (1, 7), None))
        self.assertEqual(book.blocks[1], ("full", None, None, None, "full", None, None, None, (0, 0)))

    def test_all_motions_of_a_plane(self):
        book = Book("plane 4\nkind a\na a/1 a/2 a/3\na/4 a/5 a/6 a/7\n. . . .\n. . . .")
        self.assertEqual(book.blocks, (tuple((0, motion) for motion in range(8)) + (None,) * 8,))

    def test_all_motions_of_a_line(self):
        self.assertEqual(Book("line 4\nkind a\na a/1 . #").blocks, (((0, 0), (0, 1), None, "full"),))

    def test_a_kind_named_ahead_of_its_lines(self):
        book = Book("line 2\nkind a\nb/1 c\nkind c\n# .\nkind b\na c")
        self.assertEqual(book.names, ("a", "c", "b"))
        self.assertEqual(book.blocks, (((2, 1), (1, 0)), ("full", None), ((0, 0), (1, 0))))

    def test_blocks_are_tuples_of_tuples(self):
        book = Book("plane 2\nkind a\na .\n# a/3")
        self.assertIs(type(book.blocks), tuple)
        self.assertIs(type(book.blocks[0]), tuple)
        self.assertEqual([type(cell) for cell in book.blocks[0]], [tuple, type(None), str, tuple])
        self.assertIs(type(book.names), tuple)


class NamesTest(unittest.TestCase):

    def test_names_of_one_letter_and_of_eight(self):
        book = Book("line 2\nkind z\nabcdefgh z\nkind abcdefgh\nz/1 abcdefgh/1")
        self.assertEqual(book.names, ("z", "abcdefgh"))
        self.assertEqual(book.blocks, (((1, 0), (0, 0)), ((0, 1), (1, 1))))

    def test_names_like_the_words_but_others(self):
        names = ("planes", "lines", "kinds", "plan", "lin", "kin", "full", "none", "planex", "eplane", "kindline")
        text = "line 2" + "".join(f"\nkind {name}\n{name} {name}/1" for name in names)
        self.assertEqual(Book(text).names, names)

    def test_one_kind_and_two_hundred(self):
        for head, rows in (("line 2", ". #"), ("plane 2", ". #\n# .")):
            self.assertEqual(len(Book(many_kinds(head, rows, 1))), 1)
            book = Book(many_kinds(head, rows, 200))
            self.assertEqual(len(book), 200)
            self.assertEqual(book.names, tuple(letters(number) for number in range(200)))
            self.assertEqual(len(book.blocks), 200)

    def test_two_hundred_and_one_do_not_stand(self):
        for head, rows, number in (("line 2", ". #", 402), ("plane 2", ". #\n# .", 602)):
            self.assertEqual(error_of(Book, many_kinds(head, rows, 201)).value, number)


class AskedTest(unittest.TestCase):

    def test_len_is_the_number_of_kinds(self):
        self.assertEqual(len(Book("line 2\nkind a\n. .")), 1)
        self.assertEqual(len(Book("line 2\nkind a\n. .\nkind b\n. .\nkind c\n. .")), 3)

    def test_in_is_true_of_names_of_kinds(self):
        book = Book("line 2\nkind ab\n. ab\nkind c\n# #")
        for name in ("ab", "c"):
            self.assertIs(name in book, True)
        for value in ("a", "b", "abc", "", ".", "#", "kind", "ab/1", "AB", " ab", "ab\n"):
            self.assertIs(value in book, False)

    def test_in_with_what_is_no_string(self):
        book = Book("line 2\nkind ab\n. ab")
        for value in (None, True, False, 0, 1, (), ("ab",), ["ab"], [], {"ab": 1}, {}, book, object()):
            self.assertIs(value in book, False)

    def test_equal_if_the_texts_are(self):
        text = "plane 2\nkind a\n. a\n# ."
        self.assertIs(Book(text) == Book("".join(list(text))), True)
        self.assertIs(Book(text) != Book(text), False)

    def test_not_equal_if_the_texts_are_not(self):
        book = Book("line 2\nkind a\n. a")
        for text in ("line 2\nkind b\n. b", "line 2\nkind a\n. a/1", "line 2\nkind a\n. a\nkind b\n. ."):
            self.assertIs(book == Book(text), False)
            self.assertIs(book != Book(text), True)

    def test_equal_to_nothing_else(self):
        book = Book("line 2\nkind a\n. a")
        for value in (book.text, book.names, book.blocks, None, True, 1, (), [], [book], (book,), {}, object()):
            self.assertIs(book == value, False)
            self.assertIs(value == book, False)
            self.assertIs(book != value, True)
