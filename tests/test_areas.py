"""Section 11: area_of."""

import unittest
from fractions import Fraction

from selfdrawn.books import Book
from selfdrawn.counts import area_of
from selfdrawn.inside import edge_of, outside_of
from selfdrawn.making import joined_pictures, met_pictures, parts_of, put_together, turned_picture
from selfdrawn.pictures import Picture, empty_picture, picture_from, single_point, whole_picture
from selfdrawn.scaling import lesser_picture
from tests.helpers import TABLES
from tests.samples import KINDS, sample_pictures


def area(picture):
    """The area as a Fraction, once it has been seen to be told as a fraction."""
    told = area_of(picture)
    assert type(told) is tuple and [type(part) for part in told] == [int, int], told
    number = Fraction(*told)
    assert (number.numerator, number.denominator) == told, told
    assert 0 <= number <= 1, told
    return number


def contents(picture):
    """All contents of a picture, by its form."""
    return [picture_from(picture.sides, picture.base, numbered(picture.form, number)) for number in range(len(picture.form))]


def numbered(form, first):
    """The form of the content with this number."""
    numbers = {first: 0}
    waiting = [first]
    told = []
    for number in waiting:
        row = []
        for part in form[number]:
            if part != -1 and part not in numbers:
                numbers[part] = len(waiting)
                waiting.append(part)
            row.append(numbers[part] if part != -1 else -1)
        told.append(tuple(row))
    return tuple(told)


class AreaTest(unittest.TestCase):

    def test_the_mean_of_the_areas_of_the_cells_for_each_content(self):
        for sides, base in KINDS:
            for picture in sample_pictures(sides, base, 4, 20):
                for content in contents(picture):
                    parts = [area(part) for part in parts_of(content)]
                    self.assertEqual(area(content), Fraction(sum(parts), len(parts)))

    def test_whole_and_empty_pictures(self):
        for sides, base in KINDS:
            self.assertEqual(area_of(whole_picture(sides, base)), (1, 1))
            self.assertEqual(area_of(empty_picture(sides, base)), (0, 1))
            self.assertEqual(area_of(single_point(base, ((1, 2), (1, 3))[:sides])), (0, 1))

    def test_some_areas(self):
        for text, told in (
            ("line 2\nkind a\n# a", (1, 1)),
            ("line 2\nkind a\n# b\nkind b\n. a", (2, 3)),
            ("line 3\nkind a\na # a", (1, 1)),
            ("line 3\nkind a\na . a", (0, 1)),
            ("line 3\nkind a\na . #", (1, 2)),
            ("line 4\nkind a\n. # a/1 .", (1, 3)),
            ("plane 2\nkind a\na #\n. a", (1, 2)),
            ("plane 2\nkind a\n# a/3\n. .", (1, 3)),
            ("plane 3\nkind a\na a a\na . a\na a a", (0, 1)),
            ("plane 3\nkind a\n. . .\n. # .\n. . a", (1, 8)),
            ("plane 4\nkind a\n# # # .\n. . . .\n. . . .\n. . . a/5", (1, 5)),
            ("plane 4\nkind a\nb b . .\n. . . .\n. . . .\n. . . .\nkind b\n. . . .\n. # # .\n. # # .\n. . . .", (1, 32)),
        ):
            self.assertEqual(area_of(Picture(Book(text), "a")), told, text)

    def test_what_is_full_in_two_ways_is_counted_once(self):
        # Contents that are the whole square have one number, whatever the book draws.
        text = "plane 2\nkind a\nb .\n. .\nkind b\nb c\n# b/2\nkind c\nb b\nb #"
        self.assertEqual(area_of(Picture(Book(text), "a")), (1, 4))

    def test_sides_and_corners_have_none(self):
        for text in ("plane 2\nkind a\na .\na .", "plane 2\nkind a\na .\n. a", "plane 3\nkind a\na a a\n. . .\n. . .",
                     "plane 2\nkind a\na a\na .", "plane 4\nkind a\n. . . a\n. . . .\n. . . .\n. . . ."):
            self.assertEqual(area_of(Picture(Book(text), "a")), (0, 1), text)

    def test_turned_pictures(self):
        for sides, base in KINDS:
            for picture in sample_pictures(sides, base, 3, 30):
                for motion in range(len(TABLES[sides])):
                    self.assertEqual(area_of(turned_picture(picture, motion)), area_of(picture))

    def test_joined_and_met_pictures_have_the_areas_of_both(self):
        for sides, base in KINDS:
            pictures = sample_pictures(sides, base, 5, 30)
            for one, other in zip(pictures, pictures[1:]):
                both = area(joined_pictures(one, other)) + area(met_pictures(one, other))
                self.assertEqual(both, area(one) + area(other))

    def test_put_together_and_lesser_pictures(self):
        for sides, base in KINDS:
            pictures = sample_pictures(sides, base, 5, 20)
            many = base ** sides
            told = tuple(pictures[at % len(pictures)] for at in range(many))
            self.assertEqual(area(put_together(told)), sum(map(area, told)) / many)
            for picture in pictures:
                self.assertEqual(area(lesser_picture(picture, 3, (1,) * sides)), area(picture) / 3 ** sides)

    def test_a_picture_and_its_outside_come_to_1(self):
        for sides, base in KINDS:
            for picture in sample_pictures(sides, base, 4, 30):
                self.assertEqual(area(picture) + area(outside_of(picture)), 1)
                self.assertEqual(area_of(edge_of(picture)), (0, 1))

    def test_many_contents_that_hang_on_one_another(self):
        names = ["k" + chr(97 + number // 26) + chr(97 + number % 26) for number in range(90)]
        lines = ["line 3"]
        for at, name in enumerate(names):
            lines += ["kind " + name, f"{names[(at + 1) % 90]} {'#..'[at % 3]} {names[(7 * at + 3) % 90]}"]
        picture = Picture(Book("\n".join(lines)), names[0])
        told = area(picture)
        self.assertEqual(told, sum(area(part) for part in parts_of(picture)) / 3)
        self.assertTrue(0 < told < 1)
