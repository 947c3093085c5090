"""Section 5: picture_from, picture_text, the empty and the whole picture."""

import random
import unittest

from selfdrawn.books import Book
from selfdrawn.errors import BadForm, BadNumber
from selfdrawn.pictures import Picture, empty_picture, picture_from, picture_text, single_point, whole_picture
from tests.helpers import HUGE, check_refused, error_of
from tests.samples import KINDS, sample_pictures
from tests.values import LINE, NOTHINGS, PLANE, no_integers, no_tuples


LETTERS = "abcdefghijklmnopqrstuvwxyz"
NAMES = list(LETTERS) + [one + other for one in LETTERS for other in LETTERS]


def table_text(sides, base, table):
    """The text of a book with a kind for each number of a table, as section 5 decides of forms by."""
    names = ["n" + chr(97 + number // 26) + chr(97 + number % 26) for number in range(len(table))]
    lines = [f"{'plane' if sides == 2 else 'line'} {base}"]
    for name, row in zip(names, table):
        words = ["." if part == -1 else names[part] for part in row]
        lines.append("kind " + name)
        lines.extend(" ".join(words[begin:begin + base]) for begin in range(0, len(words), base))
    return "\n".join(lines)


def is_form_by_its_book(sides, base, table):
    return Picture(Book(table_text(sides, base, table)), "naa").form == table


def chain_form(draw, many):
    """The form at base 2 of one point of the stretch with so many contents: no two of them have the same figures."""
    turns = [draw.choice((0, 1)) for _ in range(many - 2)]
    turns[-1] = 1
    rows = [(at + 1, -1) if turn == 0 else (-1, at + 1) for at, turn in enumerate(turns)]
    # Behind all comes the point 2 / 3 with the point 1 / 3 in its right half.
    return tuple(rows) + ((-1, many - 1), (many - 2, -1))


class ThereAndBackTest(unittest.TestCase):

    def test_forms_lead_back_to_pictures(self):
        for sides, base in KINDS:
            for picture in sample_pictures(sides, base, 12):
                back = picture_from(sides, base, picture.form)
                self.assertEqual(back, picture)
                self.assertEqual((back.sides, back.base, back.form), (sides, base, picture.form))
                self.assertIs(type(back), Picture)

    def test_texts_lead_back_to_pictures(self):
        for sides, base in KINDS:
            for picture in sample_pictures(sides, base, 12):
                text = picture_text(picture)
                book = Book(text)
                self.assertEqual(Picture(book, book.names[0]), picture, text)
                self.assertEqual(picture_text(Picture(book, book.names[0])), text)
                self.assertEqual(book.names[0], "a")

    def test_equal_pictures_have_equal_texts(self):
        for sides, base in KINDS:
            for picture in sample_pictures(sides, base, 5):
                self.assertEqual(picture_text(picture_from(sides, base, picture.form)), picture_text(picture))


class TextTest(unittest.TestCase):

    def test_empty_pictures(self):
        self.assertEqual(picture_text(empty_picture(1, 3)), "line 3\nkind a\n. . .")
        self.assertEqual(picture_text(empty_picture(2, 2)), "plane 2\nkind a\n. .\n. .")
        self.assertEqual(picture_text(empty_picture(2, 4)), "plane 4\nkind a" + "\n. . . ." * 4)

    def test_whole_pictures(self):
        self.assertEqual(picture_text(whole_picture(1, 2)), "line 2\nkind a\n# #")
        self.assertEqual(picture_text(whole_picture(2, 3)), "plane 3\nkind a" + "\n# # #" * 3)

    def test_the_full_content_as_another_number(self):
        half = Picture(Book("line 2\nkind z\n# ."), "z")
        self.assertEqual(picture_text(half), "line 2\nkind a\n# c\nkind c\nc .")
        late = Picture(Book("line 3\nkind z\nz y .\nkind y\n. . #"), "z")
        self.assertEqual(late.form[4], (4, 4, 4))
        told = "line 3\nkind a\na b c\nkind b\n. d #\nkind c\nc . .\nkind d\n. . d"
        self.assertEqual(picture_text(late), told)

    def test_no_full_content(self):
        corner = single_point(2, ((0, 1), (0, 1)))
        self.assertEqual(picture_text(corner), "plane 2\nkind a\na .\n. .")

    def test_names_in_their_sequence_also_beyond_z(self):
        picture = single_point(2, ((1, 59),))
        names = Book(picture_text(picture)).names
        self.assertEqual(len(picture), 58)
        self.assertEqual(names, tuple(NAMES[:58]))
        self.assertEqual(names[25:29], ("z", "aa", "ab", "ac"))
        self.assertEqual(names[51:54], ("az", "ba", "bb"))

    def test_names_to_the_greatest_number(self):
        form = chain_form(random.Random(7), 200)
        book = Book(picture_text(picture_from(1, 2, form)))
        self.assertEqual((len(book), book.names[199]), (200, "gr"))
        self.assertEqual(Picture(book, "a").form, form)

    def test_blocks_as_the_numbers_say(self):
        for sides, base in KINDS:
            for picture in sample_pictures(sides, base, 6, 26):
                if not picture.form:
                    continue
                full = [number for number, row in enumerate(picture.form) if row == (number,) * len(row)]
                book = Book(picture_text(picture))
                kept = [number for number in range(len(picture)) if number == 0 or number not in full]
                self.assertEqual(book.names, tuple(NAMES[number] for number in kept))
                for number, block in zip(kept, book.blocks):
                    told = []
                    for part in picture.form[number]:
                        told.append(None if part == -1 else "full" if part in full else (kept.index(part), 0))
                    self.assertEqual(block, tuple(told))

    def test_no_line_feed_at_the_end(self):
        for picture in sample_pictures(2, 2, 5):
            self.assertEqual(picture_text(picture), picture_text(picture).strip())


class EmptyAndWholeTest(unittest.TestCase):

    def test_their_forms(self):
        for sides, base in KINDS:
            empty, whole = empty_picture(sides, base), whole_picture(sides, base)
            self.assertEqual((empty.sides, empty.base, empty.form), (sides, base, ()))
            self.assertEqual((whole.sides, whole.base, whole.form), (sides, base, ((0,) * base ** sides,)))
            self.assertEqual(picture_from(sides, base, ()), empty)
            self.assertEqual(picture_from(sides, base, whole.form), whole)

    def test_as_books_draw_them(self):
        self.assertEqual(empty_picture(2, 3), Picture(Book("plane 3\nkind a" + "\n. . ." * 3), "a"))
        self.assertEqual(whole_picture(2, 3), Picture(Book("plane 3\nkind a" + "\n# a #" * 3), "a"))
        self.assertEqual(whole_picture(1, 4), Picture(Book("line 4\nkind a\na a/1 # a"), "a"))

    def test_sides_and_bases_that_are_none(self):
        for sides in no_integers() + (0, 3, -1, HUGE):
            for call, more in ((empty_picture, ()), (whole_picture, ()), (picture_from, ((),))):
                check_refused(self, BadNumber, sides, call, sides, 2, *more)
                check_refused(self, BadNumber, sides, call, sides, None, *more)
        for base in no_integers() + (0, 1, 5, -2, HUGE):
            for call, more in ((empty_picture, ()), (whole_picture, ()), (picture_from, ((),))):
                check_refused(self, BadNumber, base, call, 1, base, *more)
                check_refused(self, BadNumber, base, call, 2, base, *more)


class BadFormTest(unittest.TestCase):

    def refuses(self, sides, base, form):
        check_refused(self, BadForm, form, picture_from, sides, base, form)

    def test_values_that_are_no_tables(self):
        for form in no_tuples() + ((None,), ("ab",), (1, 2), ((),), ([0, 0],), ((0, 0), [0, 0]), ((0, 0), None), (PLANE,)):
            self.refuses(1, 2, form)
        for form in no_tuples() + (((0, 0),), ((0, 0, 0),), ((0,) * 5,), ((0,) * 4, (0,) * 3), ([0, 0, 0, 0],), ("0000",)):
            self.refuses(2, 2, form)

    def test_numbers_that_are_none(self):
        for part in NOTHINGS + ((), (0,), (-1,), HUGE, -HUGE, -2, 1, 2, LINE):
            self.refuses(1, 2, ((part, -1),))
            self.refuses(1, 2, ((0, part),))
            self.refuses(2, 2, ((0, -1, part, -1),))

    def test_true_is_not_1_and_false_not_0(self):
        self.assertIsNone(error_of(picture_from, 1, 2, ((1, 2), (1, -1), (-1, 2))))
        self.refuses(1, 2, ((True, 2), (1, -1), (-1, 2)))
        self.refuses(1, 2, ((1, 2), (True, -1), (-1, 2)))
        self.refuses(1, 2, ((False, False),))

    def test_lists_instead_of_tuples(self):
        for sides, base in KINDS:
            for picture in sample_pictures(sides, base, 3)[1:]:
                self.refuses(sides, base, list(picture.form))
                self.refuses(sides, base, picture.form[:-1] + (list(picture.form[-1]),))

    def test_the_form_of_another_kind(self):
        self.refuses(2, 2, whole_picture(1, 2).form)
        self.refuses(1, 3, whole_picture(1, 2).form)
        self.assertEqual(picture_from(2, 2, whole_picture(1, 4).form), whole_picture(2, 2))

    def test_tables_near_to_a_form(self):
        draw = random.Random(61)
        found = [0, 0]
        for sides, base in KINDS:
            for picture in sample_pictures(sides, base, 8, 12)[1:]:
                for _ in range(12):
                    rows = [list(row) for row in picture.form]
                    row = draw.choice(rows)
                    row[draw.randrange(len(row))] = draw.randrange(-1, len(rows))
                    table = tuple(tuple(row) for row in rows)
                    right = is_form_by_its_book(sides, base, table)
                    found[right and table != picture.form] += 1
                    if right:
                        self.assertEqual(picture_from(sides, base, table).form, table)
                    else:
                        self.refuses(sides, base, table)
        self.assertTrue(min(found) > 10, found)

    def test_small_tables_all_of_them(self):
        told = 0
        for many in (1, 2, 3):
            parts = range(-1, many)
            rows = [(one, other) for one in parts for other in parts]
            tables = [()]
            for _ in range(many):
                tables = [table + (row,) for table in tables for row in rows]
            for table in tables:
                if is_form_by_its_book(1, 2, table):
                    self.assertEqual(picture_from(1, 2, table).form, table)
                    told += 1
                else:
                    self.refuses(1, 2, table)
        self.assertGreater(told, 20)

    def test_two_numbers_exchanged(self):
        draw = random.Random(62)
        for sides, base in KINDS:
            for picture in sample_pictures(sides, base, 6):
                if len(picture) >= 3:
                    one, other = draw.sample(range(1, len(picture)), 2)
                    names = {one: other, other: one}
                    rows = [tuple(names.get(part, part) for part in row) for row in picture.form]
                    rows[one], rows[other] = rows[other], rows[one]
                    self.refuses(sides, base, tuple(rows))

    def test_a_row_more_or_one_less(self):
        for sides, base in KINDS:
            for picture in sample_pictures(sides, base, 5):
                blank = (-1,) * base ** sides
                self.refuses(sides, base, picture.form + (blank,))
                self.refuses(sides, base, (blank,) + picture.form)
                if len(picture) > 1:
                    self.refuses(sides, base, picture.form + picture.form[:1])
                    self.refuses(sides, base, picture.form + picture.form[-1:])
                    self.refuses(sides, base, picture.form[:-1])

    def test_cells_that_do_not_fit_along_their_seam(self):
        self.refuses(1, 2, ((0, -1), (-1, 1)))
        self.refuses(1, 2, ((1, 2), (1, 1), (2, 2)))
        self.refuses(2, 2, ((1, -1, -1, -1), (1, 1, 1, 1)))
        self.refuses(2, 2, ((-1, 1, 1, -1), (1, -1, -1, -1)))
        self.refuses(2, 2, ((1, -1, -1, -1), (-1, -1, -1, 1)))

    def test_two_hundred_rows_and_two_hundred_and_one(self):
        draw = random.Random(63)
        for many in (3, 199, 200):
            form = chain_form(draw, many)
            self.assertEqual((picture_from(1, 2, form).form, len(form)), (form, many))
        self.refuses(1, 2, chain_form(draw, 201))
        self.refuses(1, 2, chain_form(draw, 200) + ((-1, -1),))
        self.refuses(2, 2, ((0, 0, 0, 0),) * 201)
        self.refuses(2, 4, ((0,) * 16,) * 1000)

    def test_great_tables_that_are_none(self):
        draw = random.Random(64)
        for sides, base in KINDS:
            width = base ** sides
            self.refuses(sides, base, tuple(tuple(draw.randrange(-1, 200) for _ in range(width)) for _ in range(200)))
