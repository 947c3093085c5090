"""Section 5: the forms of the pictures of kinds, and class Picture."""

import random
import unittest

from selfdrawn.books import Book
from selfdrawn.errors import BadName
from selfdrawn.pictures import Picture, content_at, empty_picture, whole_picture
from tests.helpers import check_refused
from tests.samples import KINDS, gallery, sample_books
from tests.slow import Drawing
from tests.values import NOTHINGS, NUMBERS_OUT

# Each tuple: kinds of one book, or of several, that draw the same set.
SAME_SETS = (
    # The middle line, drawn as the right side of the left cells, as the left side of the right ones, or by turns.
    ("plane 2\nkind a\nr .\nr .\nkind r\n. r\n. r", "plane 2\nkind a\n. l\n. l\nkind l\nl .\nl .",
     "plane 2\nkind a\n. l\nr .\nkind l\nl .\nl .\nkind r\n. r\n. r",
     "plane 2\nkind a\nm .\nm .\nkind m\n. m\n. n/4\nkind n\nn .\nm/4 .",
     "plane 2\nkind a\nl/4 l\nl/2 l/6\nkind l\nl .\nl ."),
    # Dots along a seam, from the left and from the right.
    ("plane 3\nkind a\nd . .\n. . .\nd . .\nkind d\n. . d\n. . .\n. . d",
     "plane 3\nkind a\n. e .\n. . .\n. e .\nkind e\ne . .\n. . .\ne . ."),
    # The middle of the stretch.
    ("line 2\nkind a\n. p\nkind p\np .", "line 2\nkind a\nq .\nkind q\n. q", "line 2\nkind a\nq p\nkind p\np .\nkind q\n. q",
     "line 2\nkind a\np/1 .\nkind p\nq .\nkind q\np ."),
    # A corner in the middle, from each of four cells.
    ("plane 2\nkind a\np/2 .\n. .\nkind p\np .\n. .", "plane 2\nkind a\n. p/3\n. .\nkind p\np .\n. .",
     "plane 2\nkind a\n. .\np/1 .\nkind p\np .\n. .", "plane 2\nkind a\n. .\n. p\nkind p\np .\n. ."),
    # The whole without a full cell, and with some.
    ("plane 2\nkind a\na a/1\na/2 a/7", "plane 2\nkind a\n# #\n# #", "plane 2\nkind a\nb #\n# b/3\nkind b\na/4 a\n# b"),
    ("line 3\nkind a\na a/1 a", "line 3\nkind a\n# # #", "line 3\nkind a\nb # b/1\nkind b\na b b"),
    # Nothing: blank, or cells that end in blank ones.
    ("plane 2\nkind a\n. .\n. .", "plane 2\nkind a\nb b/1\n. c\nkind b\n. c\nc .\nkind c\n. .\n. .",
     "plane 2\nkind a\n. b\n. .\nkind b\n. .\nc/7 .\nkind c\nd d\nd d\nkind d\n. .\n. ."),
    ("line 4\nkind a\n. . . .", "line 4\nkind a\nb . b/1 b\nkind b\n. c . .\nkind c\n. . . ."),
    # Cells without points beside such with points.
    ("plane 2\nkind a\na .\n. .", "plane 2\nkind a\na b\nb b/5\nkind b\nc .\n. c\nkind c\n. .\n. ."),
    # One kind told twice, and in motions that move it to itself.
    ("plane 3\nkind a\na . a\n. a .\na . a", "plane 3\nkind a\na/1 . b/2\n. a/7 .\nb . a/4\nkind b\nb . a/3\n. b/6 .\na . b"),
    ("line 3\nkind a\na . a", "line 3\nkind a\na/1 . b\nkind b\nb/1 . a"),
)

# Books the first kinds of which have that many contents.
GREATER = (
    (184, "plane 2\nkind a\na .\na/1 a/7"),
    (172, "plane 2\nkind a\na .\na/3 a/4"),
    (149, "plane 3\nkind a\nb/2 . b\na/2 . a/2\n. b/2 .\nkind b\n. b/2 #\n. a/2 a/2\n. . b/2"),
    (167, "plane 4\nkind a\n# . . b/4\n. b/2 a/2 .\na/4 a a/4 a\n. . . .\n"
          "kind b\na/2 a/2 . #\n. . . #\na . . .\na/4 . . ."),
)


def renamed(draw, book):
    """The text of the book with other names, its kinds in another sequence, and the new name of each kind."""
    sequence = list(range(len(book)))
    draw.shuffle(sequence)
    names = {kind: "n" + chr(97 + place) for place, kind in enumerate(sequence)}
    lines = [book.text.split("\n")[0]]
    for kind in sequence:
        lines.append("kind " + names[kind])
        block = book.blocks[kind]
        for begin in range(0, len(block), book.base):
            row = block[begin:begin + book.base]
            lines.append(" ".join(renamed_word(cell, names) for cell in row))
    return "\n".join(lines), names


def renamed_word(cell, names):
    if cell is None:
        return "."
    if cell == "full":
        return "#"
    return names[cell[0]] + (f"/{cell[1]}" if cell[1] else "")


class FormTest(unittest.TestCase):

    def test_as_the_views_of_cells_and_of_those_beside_tell(self):
        for sides, base in KINDS:
            wanted = 40 if sides == 1 else {2: 12, 3: 6, 4: 3}[base]
            for book, name in sample_books(sides, base, wanted):
                self.assertEqual(Picture(book, name).form, Drawing(book).form(name), (book.text, name))

    def test_greater_forms_as_the_views_tell(self):
        for many, text in GREATER:
            book = Book(text)
            form = Picture(book, "a").form
            self.assertEqual((len(form), form), (many, Drawing(book).form("a")), text)

    def test_sets_that_are_drawn_in_several_ways(self):
        for texts in SAME_SETS:
            forms = [Picture(Book(text), "a").form for text in texts]
            self.assertEqual(forms, [forms[0]] * len(texts), texts)
            self.assertEqual(Picture(Book(texts[0]), "a"), Picture(Book(texts[-1]), "a"))

    def test_forms_that_are_told_out(self):
        told = (
            ("plane 2\nkind a\nr .\nr .\nkind r\n. r\n. r", ((1, 2, 1, 2), (-1, 1, -1, 1), (2, -1, 2, -1))),
            ("plane 2\nkind a\na a\na a", ((0, 0, 0, 0),)),
            ("plane 2\nkind a\n. b\n. .\nkind b\n. .\n. .", ()),
            ("line 2\nkind a\n. p\nkind p\np .", ((1, 2), (-1, 1), (2, -1))),
            ("line 3\nkind a\na . a", ((0, 1, 0), (2, -1, 3), (2, -1, -1), (-1, -1, 3))),
            ("line 2\nkind a\n. a/1", ((-1, 1), (0, -1))),
        )
        for text, form in told:
            self.assertEqual(Picture(Book(text), "a").form, form, text)

    def test_a_blank_cell_has_what_lies_on_its_rim(self):
        block = Picture(Book("plane 4\nkind a\n. . . .\n. # . .\n. . . .\n. . . ."), "a")
        there = [column + 4 * row for column in range(3) for row in range(3)]
        self.assertEqual([part for part in range(16) if block.form[0][part] != -1], sorted(there))
        self.assertEqual(content_at(block, 1, (3, 3)), empty_picture(2, 4))
        self.assertEqual(len(set(block.form[0])), 10)

    def test_other_names_and_another_sequence(self):
        draw = random.Random(53)
        for sides, base in KINDS:
            for book, name in sample_books(sides, base, 6):
                text, names = renamed(draw, book)
                self.assertEqual(Picture(Book(text), names[book.names.index(name)]), Picture(book, name), text)

    def test_kinds_that_are_not_named_do_not_matter(self):
        for book, name in gallery(2, 2) + gallery(1, 2):
            blank = "\n".join([". ."] * (2 if book.sides == 2 else 1))
            more = book.text + f"\nkind zz\n{blank.replace('.', '#')}\nkind zy\n{blank}"
            self.assertEqual(Picture(Book(more), name), Picture(book, name))

    def test_forms_are_tuples_of_numbers_in_their_sequence(self):
        for sides, base in KINDS:
            for book, name in sample_books(sides, base, 6):
                form = Picture(book, name).form
                self.assertIs(type(form), tuple)
                self.assertEqual({type(row) for row in form}, {tuple})
                self.assertEqual({len(row) for row in form}, {base ** sides})
                parts = [part for row in form for part in row]
                self.assertEqual({type(part) for part in parts}, {int})
                firsts = list(dict.fromkeys([0] + [part for part in parts if part != -1]))
                self.assertEqual(firsts, list(range(len(form))))
                self.assertTrue(all(max(row) >= 0 for row in form))

    def test_each_number_is_a_content_and_no_other_one(self):
        for sides, base in KINDS:
            for book, name in sample_books(sides, base, 6, 30):
                picture = Picture(book, name)
                contents = {0: picture}
                for number, row in enumerate(picture.form):
                    for part, end in enumerate(row):
                        cell = (part % base, part // base)[:sides]
                        content = content_at(contents[number], 1, cell)
                        self.assertEqual(content.form == (), end == -1)
                        if end != -1:
                            self.assertEqual(contents.setdefault(end, content), content)
                self.assertEqual(len({content.form for content in contents.values()}), len(picture.form))


class PictureTest(unittest.TestCase):

    def test_properties_are_set_when_it_is_created(self):
        picture = Picture(Book("plane 3\nkind b\n. . .\n. . .\n. . .\nkind a\n. . .\n. . .\n. . a"), "a")
        told = [vars(picture)[name] for name in ("sides", "base", "form")]
        self.assertEqual(told, [2, 3, ((-1,) * 8 + (0,),)])
        self.assertEqual([picture.sides, picture.base, picture.form, len(picture)], told + [1])

    def test_len_is_that_of_the_form(self):
        for sides, base in KINDS:
            for book, name in gallery(sides, base):
                picture = Picture(book, name)
                self.assertEqual(len(picture), len(picture.form))
            self.assertEqual([len(empty_picture(sides, base)), len(whole_picture(sides, base))], [0, 1])

    def test_names_that_are_none(self):
        book = Book("line 2\nkind a\n. a\nkind bc\n# a")
        for name in NOTHINGS + NUMBERS_OUT + ((), ("a",), 0, 1, "b", "c", "abc", "kind", "a/1", ".", "#"):
            if name != "a":
                check_refused(self, BadName, name, Picture, book, name)

    def test_equal_if_alike_in_kind_and_of_one_form(self):
        one = Picture(Book("line 2\nkind a\n# ."), "a")
        other = Picture(Book("line 2\nkind b\nb .\nkind c\nd .\nkind d\n# #"), "c")
        third = Picture(Book("line 2\nkind b\nb ."), "b")
        self.assertIs(one == other, True)
        self.assertIs(one != other, False)
        self.assertIs(one == third, False)
        self.assertIs(one != third, True)

    def test_equal_forms_of_other_sides_or_bases(self):
        self.assertEqual(whole_picture(1, 4).form, whole_picture(2, 2).form)
        self.assertIs(whole_picture(1, 4) == whole_picture(2, 2), False)
        for one in KINDS:
            for other in KINDS:
                self.assertIs(empty_picture(*one) == empty_picture(*other), one == other)
                self.assertIs(empty_picture(*one) != empty_picture(*other), one != other)

    def test_equal_to_nothing_else(self):
        picture = whole_picture(1, 2)
        values = (picture.form, (1, 2, picture.form), 1, True, None, "line 2\nkind a\n# #", [picture], (picture,), {},
                  Book("line 2\nkind a\n# #"), object())
        for value in values:
            self.assertIs(picture == value, False)
            self.assertIs(value == picture, False)
            self.assertIs(picture != value, True)
