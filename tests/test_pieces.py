"""Section 12: one_pieces and piece_count."""

import random
import unittest
from itertools import combinations, product

from selfdrawn.books import DEEPEST, Book
from selfdrawn.errors import BadNumber
from selfdrawn.making import joined_pictures, met_pictures, turned_picture
from selfdrawn.pictures import Picture, content_at, empty_picture, picture_text, single_point, whole_picture
from selfdrawn.pieces import one_pieces, piece_count, touching_point
from selfdrawn.scaling import lesser_picture
from tests.helpers import TABLES, check_refused
from tests.samples import GALLERY_TEXTS, KINDS, cells_that_meet, pool, sample_pictures, small_pictures, some_book
from tests.values import LINE, NUMBERS_OUT, PLANE, no_integers

# Cells drawn by lesser_picture can be so many a side.
SMALL_DEPTHS = {2: (1, 2), 3: (1,), 4: (1,)}


def lots_told(cells, linked):
    """The lots of cells, by taking together whatever is linked, again and again."""
    lots = [{cell} for cell in cells]
    for one, other in combinations(cells, 2):
        if linked(one, other):
            both = [lot for lot in lots if one in lot or other in lot]
            lots = [lot for lot in lots if lot not in both] + [set().union(*both)]
    return tuple(sorted(tuple(sorted(lot)) for lot in lots))


def shown_in_block(book, kind):
    """The pictures that the block of a kind draws in its cells, if they have points."""
    told = {}
    for at, what in enumerate(book.blocks[kind]):
        cell = (at % book.base, at // book.base)[:book.sides]
        if what == "full":
            told[cell] = whole_picture(book.sides, book.base)
        elif what is not None:
            picture = turned_picture(Picture(book, book.names[what[0]]), what[1])
            if picture.form:
                told[cell] = picture
    return told


def parted_told(book):
    """What one_pieces has to tell: cells touch if what is drawn in them, made smaller, meets."""
    for kind, name in enumerate(book.names):
        shown = {cell: lesser_picture(picture, book.base, cell) for cell, picture in shown_in_block(book, kind).items()}
        lots = lots_told(list(shown), lambda one, other: met_pictures(shown[one], shown[other]).form != ())
        if len(lots) > 1:
            return "parted", name, lots
    return ("whole",)


def are_beside(one, other):
    return one != other and max(abs(a - b) for a, b in zip(one, other)) == 1


class OnePiecesTest(unittest.TestCase):

    def test_against_lesser_pictures(self):
        draw = random.Random(230)
        words = set()
        books = [Book(text) for text in GALLERY_TEXTS]
        for sides, base in KINDS:
            books += pool(sides, base)[:6]
            full = [some_book(draw, sides, base, 2, 1, 2) for _ in range(8)]
            books += [book for book in full if max(len(Picture(book, name)) for name in book.names) <= 40]
        for book in books:
            told = one_pieces(book)
            self.assertEqual(told, parted_told(book), book.text)
            words.add(told[0])
        self.assertEqual(words, {"whole", "parted"})

    def test_books_that_hang_together(self):
        for text in (
            "plane 2\nkind a\na .\na a", "plane 2\nkind a\na .\n. a", "plane 3\nkind a\na a a\na . a\na a a",
            "plane 3\nkind a\n. a .\na a a\n. a .", "line 2\nkind a\na a", "line 3\nkind a\n# # .",
            "line 2\nkind a\na .", "plane 2\nkind a\n# .\n. #", "plane 2\nkind a\n. .\n. .",
            "line 4\nkind a\n. . a/1 .", "plane 4\nkind a\n# . . .\n. # . .\n. . # .\n. . . b\nkind b\nb . . ." +
            "\n. b . .\n. . b .\n. . . b",
        ):
            self.assertEqual(one_pieces(Book(text)), ("whole",), text)

    def test_the_first_parted_kind(self):
        text = "line 3\nkind a\n# # .\nkind b\n# . #\nkind c\nc . c"
        self.assertEqual(one_pieces(Book(text)), ("parted", "b", (((0,),), ((2,),))))
        text = "line 3\nkind c\nc . c\nkind a\n# # .\nkind b\n# . #"
        self.assertEqual(one_pieces(Book(text)), ("parted", "c", (((0,),), ((2,),))))

    def test_kinds_without_points(self):
        self.assertEqual(one_pieces(Book("line 3\nkind a\n. . .")), ("whole",))
        self.assertEqual(one_pieces(Book("line 3\nkind a\na/1 . b\nkind b\n. c .\nkind c\n. . .")), ("whole",))
        # Cells of kinds without points do not count, and they link nothing either.
        text = "line 4\nkind a\n# b # c\nkind b\n. c . .\nkind c\n. . . ."
        self.assertEqual(one_pieces(Book(text)), ("parted", "a", (((0,),), ((2,),))))
        text = "line 4\nkind a\n# # b c\nkind b\nc . . c\nkind c\n. . . ."
        self.assertEqual(one_pieces(Book(text)), ("whole",))

    def test_lots_in_the_order_of_their_least_cells(self):
        text = "plane 3\nkind a\n# . #\n. . .\n# . #"
        self.assertEqual(one_pieces(Book(text)), ("parted", "a", (((0, 0),), ((0, 2),), ((2, 0),), ((2, 2),))))
        text = "plane 4\nkind a\n# # . #\n. . . #\n# . . .\n# . . #"
        lots = (((0, 0), (1, 0)), ((0, 2), (0, 3)), ((3, 0), (3, 1)), ((3, 3),))
        self.assertEqual(one_pieces(Book(text)), ("parted", "a", lots))
        text = "plane 4\nkind a\n. # . .\n# . # .\n. . . #\n# . . ."
        self.assertEqual(one_pieces(Book(text)), ("parted", "a", (((0, 1), (1, 0), (2, 1), (3, 2)), ((0, 3),))))

    def test_cells_in_motions(self):
        # The point at the corner (0, 0), turned so that two of them meet, or do not.
        for one, other, told in (("p", "p", False), ("p/1", "p", True), ("p", "p/1", False), ("p/4", "p/6", False),
                                 ("p/2", "p/3", True), ("p/4", "p/7", True), ("p/5", "p/6", True)):
            book = Book(f"plane 2\nkind a\n{one} {other}\n. .\nkind p\np .\n. .")
            lots = ("parted", "a", (((0, 0),), ((1, 0),)))
            self.assertEqual(one_pieces(book), ("whole",) if told else lots, (one, other))

    def test_cells_that_touch_at_a_corner_alone(self):
        for motions, told in ((("2", "0"), True), (("0", "2"), False), (("5", "7"), True), (("2", "1"), False)):
            words = [f"p/{motion}" if motion != "0" else "p" for motion in motions]
            book = Book(f"plane 2\nkind a\n{words[0]} .\n. {words[1]}\nkind p\np .\n. .")
            self.assertEqual(one_pieces(book) == ("whole",), told, motions)

    def test_only_cells_beside_one_another_are_led_to_one_another(self):
        text = "plane 3\nkind a\n# . .\n. . .\n. . #\nkind b\n# # #\n. . .\n# # #"
        self.assertEqual(one_pieces(Book(text)), ("parted", "a", (((0, 0),), ((2, 2),))))


class PieceCountTest(unittest.TestCase):

    def test_by_cells_that_are_drawn_and_met(self):
        for sides, base in KINDS:
            for depth in SMALL_DEPTHS[base]:
                size = base ** depth
                closed = {cell: lesser_picture(whole_picture(sides, base), size, cell) for cell in product(range(size), repeat=sides)}
                for picture in sample_pictures(sides, base, 2, 20):
                    shown = {cell: met_pictures(picture, closed[cell]) for cell in cells_that_meet(picture, depth)}
                    lots = lots_told(list(shown), lambda one, other: met_pictures(shown[one], shown[other]).form != ())
                    self.assertEqual(piece_count(picture, depth), len(lots))

    def test_by_contents_that_touch(self):
        for sides, base in KINDS:
            for picture in sample_pictures(sides, base, 2, 20):
                for depth in range(3 if sides == 1 or base == 2 else 2):
                    cells = cells_that_meet(picture, depth)
                    contents = {cell: content_at(picture, depth, cell) for cell in cells}

                    def linked(one, other):
                        step = tuple(b - a for a, b in zip(one, other))
                        return are_beside(one, other) and touching_point(contents[one], contents[other], step) is not None

                    self.assertEqual(piece_count(picture, depth), len(lots_told(list(cells), linked)))

    def test_it_never_gets_less(self):
        for sides, base in KINDS:
            for picture in sample_pictures(sides, base, 4, 40):
                told = [piece_count(picture, depth) for depth in range(DEEPEST[base] + 1)]
                self.assertEqual(told, sorted(told))
                self.assertEqual(told[0], 1 if picture.form else 0)

    def test_whole_and_empty_pictures(self):
        for sides, base in KINDS:
            for depth in range(DEEPEST[base] + 1):
                self.assertEqual(piece_count(whole_picture(sides, base), depth), 1)
                self.assertEqual(piece_count(empty_picture(sides, base), depth), 0)
                self.assertEqual(piece_count(single_point(base, ((1, 2), (1, 3))[:sides]), depth), 1)

    def test_points_that_fall_apart(self):
        for base, told in ((2, [1, 1, 1, 2, 2, 2]), (3, [1, 1, 2, 2]), (4, [1, 1, 2])):
            near = joined_pictures(single_point(base, ((2, 5), (1, 7))), single_point(base, ((3, 5), (1, 7))))
            self.assertEqual([piece_count(near, depth) for depth in range(len(told))], self.by_cells(near, len(told)))

    def by_cells(self, picture, depths):
        """The counts of a picture of points, no cell of which shares its points with another one."""
        return [len(cells_that_meet(picture, depth)) for depth in range(depths)]

    def test_cells_beside_one_another_without_a_common_point(self):
        # In each row of the block a point in the middle of each cell: no two cells are linked.
        for base, most in ((3, 3), (4, 2)):
            row = " ".join(["p"] * base)
            middle = "\n".join([" ".join(["."] * base), ". p" + " ." * (base - 2)] + [" ".join(["."] * base)] * (base - 2))
            text = f"plane {base}\nkind a\n" + "\n".join([row] * base) + f"\nkind p\n{middle}"
            picture = Picture(Book(text), "a")
            for depth in range(1, most + 1):
                self.assertEqual(piece_count(picture, depth), base ** 2)

    def test_at_the_greatest_depths(self):
        told = {2: 32, 3: 27, 4: 16}
        for base, size in told.items():
            depth = DEEPEST[base]
            self.assertEqual(size, base ** depth)
            dust = Picture(Book(f"line {base}\nkind a\n" + ("a . a" if base == 3 else "a . . a" if base == 4 else "a b\nkind b\n. .")), "a")
            self.assertEqual(piece_count(dust, depth), {2: 1, 3: 4, 4: 4}[base])

    def test_turned_pictures_have_as_many(self):
        for sides, base in KINDS:
            for picture in small_pictures(sides, base, 2, 30):
                for motion in range(len(TABLES[sides])):
                    for depth in range(DEEPEST[base] + 1):
                        self.assertEqual(piece_count(turned_picture(picture, motion), depth), piece_count(picture, depth))

    def test_books_in_one_piece_have_pictures_in_one_piece(self):
        seen = 0
        for sides, base in KINDS:
            for picture in sample_pictures(sides, base, 6, 30):
                book = Book(picture_text(picture))
                if one_pieces(book) == ("whole",):
                    seen += 1
                    self.assertLessEqual(piece_count(picture, DEEPEST[base]), 1)
        self.assertGreater(seen, 6)

    def test_refused_depths(self):
        for value in no_integers() + NUMBERS_OUT + (6, -1, 200):
            check_refused(self, BadNumber, value, piece_count, PLANE, value)
            check_refused(self, BadNumber, value, piece_count, empty_picture(2, 2), value)
        for base, most in DEEPEST.items():
            for sides in (1, 2):
                picture = whole_picture(sides, base)
                check_refused(self, BadNumber, most + 1, piece_count, picture, most + 1)
                self.assertEqual(piece_count(picture, most), 1)
        check_refused(self, BadNumber, True, piece_count, LINE, True)
