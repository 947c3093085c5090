"""Section 11: how_many and all_points."""

import random
import unittest
from fractions import Fraction
from itertools import product

from selfdrawn.books import Book
from selfdrawn.counts import all_points, count_cells, how_many
from selfdrawn.errors import NotFew, TooMany
from selfdrawn.making import crossed_lines, joined_pictures, turned_picture
from selfdrawn.pictures import Picture, empty_picture, single_point, whole_picture
from selfdrawn.points import first_point, fraction_of, last_point, place_of
from tests.helpers import TABLES, check_refused, error_of
from tests.samples import KINDS, NUMBERS, SMALL, sample_pictures, some_points, written


def picture_of(sides, base, points):
    """The picture with just these points."""
    picture = empty_picture(sides, base)
    for point in points:
        picture = joined_pictures(picture, single_point(base, written(point)))
    return picture


def places_of(base, points):
    """These points as all_points tells them."""
    return tuple(tuple(place_of(base, part) for part in written(point)) for point in sorted(points))


def picture_named(text, name="a"):
    return Picture(Book(text), name)


class FewPointsTest(unittest.TestCase):

    def test_some_points(self):
        draw = random.Random(210)
        for sides, base in KINDS:
            for many in (1, 2, 3, 5, 9):
                for numbers in (NUMBERS, SMALL):
                    points = set(some_points(draw, sides, many, numbers))
                    picture = picture_of(sides, base, points)
                    self.assertEqual(how_many(picture), ("some", len(points)))
                    self.assertEqual(all_points(picture), places_of(base, points))

    def test_no_points(self):
        for sides, base in KINDS:
            self.assertEqual(how_many(empty_picture(sides, base)), ("none",))
            self.assertEqual(all_points(empty_picture(sides, base)), ())

    def test_points_on_seams_and_at_corners_once_each(self):
        for sides, base in KINDS:
            size = base ** 2
            for places in product((0, 1, size // 2, size - 1, size), repeat=sides):
                point = tuple(Fraction(place, size) for place in places)
                picture = picture_of(sides, base, [point])
                self.assertEqual(how_many(picture), ("some", 1))
                self.assertEqual(all_points(picture), places_of(base, [point]))
            points = list(product([Fraction(place, base) for place in range(base + 1)], repeat=sides))
            picture = picture_of(sides, base, points)
            self.assertEqual(how_many(picture), ("some", (base + 1) ** sides))
            self.assertEqual(all_points(picture), places_of(base, points))

    def test_first_and_last_of_all_points(self):
        draw = random.Random(211)
        for sides, base in KINDS:
            picture = picture_of(sides, base, some_points(draw, sides, 6, SMALL))
            told = all_points(picture)
            self.assertEqual((told[0], told[-1]), (first_point(picture), last_point(picture)))

    def test_by_number_and_not_as_python_sorts_places(self):
        numbers = [Fraction(1, 2), Fraction(1, 3), Fraction(2, 3), Fraction(1, 4), Fraction(0), Fraction(1), Fraction(5, 12)]
        told = all_points(picture_of(1, 2, [(number,) for number in numbers]))
        self.assertEqual(told, places_of(2, [(number,) for number in numbers]))
        self.assertNotEqual(told, tuple(sorted(told)))
        self.assertEqual([fraction_of(2, place) for place, in told], list(written(sorted(numbers))))
        points = [(Fraction(1, 3), Fraction(1, 2)), (Fraction(1, 3), Fraction(1, 3)), (Fraction(1, 4), Fraction(1))]
        told = all_points(picture_of(2, 2, points))
        self.assertEqual(told, places_of(2, points))

    def test_rings_that_are_alike_for_long(self):
        # 2/7 and 1/3 are .010010.. and .010101.., 5/7 and 2/3 are .101101.. and .101010..
        for one, other in ((Fraction(2, 7), Fraction(1, 3)), (Fraction(5, 7), Fraction(2, 3)), (Fraction(1, 7), Fraction(2, 15))):
            self.assertEqual(all_points(picture_of(1, 2, [(one,), (other,)])), places_of(2, [(one,), (other,)]))
            points = [(Fraction(1, 3), one), (Fraction(1, 3), other), (one, one), (other, one)]
            self.assertEqual(all_points(picture_of(2, 2, points)), places_of(2, set(points)))
        # 2/31 and 1/15 are .0001000010.. and .0001000100..; here they are told apart by y at once.
        points = [(Fraction(1, 15), Fraction(0)), (Fraction(2, 31), Fraction(1))]
        self.assertEqual(all_points(picture_of(2, 2, points)), places_of(2, points))

    def test_turned_pictures_have_as_many(self):
        draw = random.Random(212)
        for sides, base in KINDS:
            points = set(some_points(draw, sides, 5, SMALL))
            picture = picture_of(sides, base, points)
            for motion, table in enumerate(TABLES[sides]):
                turned = turned_picture(picture, motion)
                self.assertEqual(how_many(turned), how_many(picture))
                self.assertEqual(all_points(turned), places_of(base, [table(*point) for point in points]))

    def test_points_with_long_rings(self):
        points = [(Fraction(7, 59), Fraction(20, 53)), (Fraction(7, 59), Fraction(21, 53)), (Fraction(8, 59), Fraction(0))]
        for base in (2, 3, 4):
            self.assertEqual(all_points(picture_of(2, base, points)), places_of(base, points))


class ManyPointsTest(unittest.TestCase):

    def hundred(self):
        line = picture_of(1, 3, [(Fraction(place, 9),) for place in range(10)])
        return crossed_lines(line, line)

    def test_100_and_101(self):
        picture = self.hundred()
        self.assertEqual(how_many(picture), ("some", 100))
        points = list(product([Fraction(place, 9) for place in range(10)], repeat=2))
        self.assertEqual(all_points(picture), places_of(3, points))
        more = joined_pictures(picture, single_point(3, ((1, 2), (1, 2))))
        self.assertEqual(how_many(more), ("some", 101))
        self.assertEqual((type(error_of(all_points, more)), error_of(all_points, more).value), (TooMany, 100))
        same = joined_pictures(picture, single_point(3, ((1, 3), (2, 3))))
        self.assertEqual(how_many(same), ("some", 100))

    def test_finitely_many_with_long_numbers(self):
        # Each kind has twice (four times, sixteen times) the points of the next one.
        names = ["k" + chr(97 + number // 26) + chr(97 + number % 26) for number in range(60)]
        for text, rows, many in (
            ("line 3", "{0} . {0}", 2), ("plane 2", "{0} {0}\n{0} {0}", 4), ("plane 4", "{0} . {0} .\n. . . .\n. . . .\n{0} . . .", 3),
        ):
            lines = [text]
            for name, below in zip(names, names[1:] + [None]):
                lines += ["kind " + name] + [rows.format(below)] if below else []
            middle = {"line 3": ". p .", "plane 2": "p .\n. .", "plane 4": ". . . .\n. p . .\n. . . .\n. . . ."}[text]
            point = {"line 3": ". p .", "plane 2": ". q\n. .", "plane 4": ". . . .\n. p . .\n. . . .\n. . . ."}[text]
            lines += [f"kind {names[-1]}", middle, "kind p", point]
            if text == "plane 2":
                lines += ["kind q", ". .\np ."]
            picture = Picture(Book("\n".join(lines)), names[0])
            self.assertEqual(how_many(picture), ("some", many ** 59))
            raised = error_of(all_points, picture)
            self.assertEqual((type(raised), raised.value), (TooMany, 100))

    def test_grids_of_points(self):
        # The four corners of all cells of depth 10, each met from up to four cells.
        names = ["k" + chr(97 + number) for number in range(11)]
        lines = ["plane 2"]
        for name, below in zip(names, names[1:]):
            lines += ["kind " + name, f"{below} {below}", f"{below} {below}"]
        lines += ["kind kk", "p .", ". .", "kind p", "p .", ". ."]
        picture = Picture(Book("\n".join(lines)), "ka")
        self.assertEqual(how_many(picture), ("some", 4 ** 10))
        corners = joined_pictures(picture, turned_picture(picture, 2))
        self.assertEqual(how_many(corners), ("some", 2 * 4 ** 10 - (2 ** 10 - 1) ** 2))

    def test_countable_pictures(self):
        for text in (
            "plane 2\nkind a\na b\n. .\nkind b\nb .\n. .",
            "line 2\nkind a\na b\nkind b\nb .",
            "line 2\nkind a\na b/1\nkind b\nb .",
            "line 3\nkind a\n. a b\nkind b\nc . c\nkind c\n. c .",
            "plane 2\nkind a\na b\n. .\nkind b\nb c\n. .\nkind c\nc .\n. .",
            "plane 3\nkind a\n. b .\nb a b\n. b .\nkind b\n. . .\n. b .\n. . .",
        ):
            picture = picture_named(text)
            self.assertEqual(how_many(picture), ("countable",), text)
            self.check_not_few(picture, "countable")

    def test_more_than_countable_pictures(self):
        for text in (
            "plane 2\nkind a\na .\n. a", "plane 2\nkind a\na .\na .", "line 3\nkind a\na . a", "line 2\nkind a\n# .",
            "line 4\nkind a\n. a a/1 .", "line 2\nkind a\nb .\nkind b\n. c\nkind c\na a/1",
            "plane 4\nkind a\nb . . .\n. . . .\n. . . .\n. . . b\nkind b\n. a . .\n. . . .\n. . . .\n. . . .",
        ):
            picture = picture_named(text)
            self.assertEqual(how_many(picture), ("more",), text)
            self.check_not_few(picture, "more")
        for sides, base in KINDS:
            self.check_not_few(whole_picture(sides, base), "more")

    def check_not_few(self, picture, word):
        raised = error_of(all_points, picture)
        self.assertEqual((type(raised), raised.value), (NotFew, word))

    def test_rows_that_lead_back_in_two_ways_to_one_point(self):
        # In these books two rows of cells lead a kind back to itself, and all of them close in on one point of a seam.
        for text, point in (
            ("line 2\nkind a\nb/1 b\nkind b\nb .", (Fraction(1, 2),)),
            ("plane 2\nkind a\nb/2 b/3\nb/1 b\nkind b\nb .\n. .", (Fraction(1, 2), Fraction(1, 2))),
            ("plane 2\nkind a\nb/2 .\n. b\nkind b\nb .\n. .", (Fraction(1, 2), Fraction(1, 2))),
            ("plane 2\nkind a\nb c\nd .\nkind b\n. .\n. b\nkind c\n. .\nc .\nkind d\n. d\n. .", (Fraction(1, 2), Fraction(1, 2))),
            ("plane 2\nkind a\na/4 .\n. .\nkind b\n. .\n. .", (Fraction(1, 3), Fraction(0))),
            ("plane 2\nkind a\n. up\n. down\nkind up\n. .\nup .\nkind down\ndown .\n. .", (Fraction(1, 2), Fraction(1, 2))),
        ):
            picture = picture_named(text)
            self.assertEqual(how_many(picture), ("some", 1), text)
            self.assertEqual(all_points(picture), places_of(picture.base, [point]), text)

    def test_cells_on_both_sides_of_a_seam_that_go_along_with_one_another(self):
        # On a whole seam there are rows of cells on both sides, but a point has no more than four addresses.
        seam = picture_named("plane 2\nkind a\nb/4 b\n. .\nkind b\nc .\n. .\nkind c\nc .\n. .")
        self.assertEqual(how_many(seam), ("some", 1))
        points = picture_named("plane 2\nkind a\n. e/4\n. e\nkind e\ne p\n. .\nkind p\np .\n. .")
        self.assertEqual(how_many(points), ("countable",))

    def test_against_how_the_counts_of_cells_grow(self):
        words = set()
        for sides, base in KINDS:
            for picture in sample_pictures(sides, base, 8, 30):
                told = how_many(picture)
                cells = [self.all_cells(picture, depth) for depth in (99, 100, 199, 200)]
                if told[0] == "none":
                    self.assertEqual(cells, [0] * 4)
                elif told[0] == "some":
                    # Each point is met by one to four cells, at all great depths by the same ones.
                    self.assertTrue(told[1] <= cells[3] <= 4 * told[1])
                elif told[0] == "countable":
                    self.assertTrue(cells[1] < cells[3] < 100 * cells[1])
                else:
                    self.assertGreater(cells[3], 1000 * cells[1])
                words.add(told[0])
        self.assertEqual(words, {"none", "some", "countable", "more"})

    def all_cells(self, picture, depth):
        return count_cells(picture, depth, (0,) * picture.sides, (picture.base ** depth,) * picture.sides)


class NotFewTest(unittest.TestCase):

    def test_the_word_is_told_ahead_of_the_number(self):
        dust = picture_named("line 3\nkind a\na . a")
        check_refused(self, NotFew, how_many(dust)[0], all_points, dust)
