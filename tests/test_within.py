"""Section 7: is_within and symmetries_of."""

import random
import unittest
from itertools import product

from selfdrawn.beside import is_within, symmetries_of
from selfdrawn.books import Book
from selfdrawn.errors import Unlike
from selfdrawn.making import joined_pictures, met_pictures, turned_picture
from selfdrawn.motions import back_motion, joint_motion
from selfdrawn.pictures import Picture, content_at, empty_picture, single_point, whole_picture
from selfdrawn.points import has_point
from tests.helpers import TABLES, error_of
from tests.samples import KINDS, SMALL, cells_that_meet, sample_pictures, some_points, written


def told_of_cells(one, other, depth):
    """The cells of this depth that meet one and do not meet other, ascending."""
    there = cells_that_meet(other, depth)
    return [cell for cell in cells_that_meet(one, depth) if cell not in there]


class WithinTest(unittest.TestCase):

    def check(self, one, other):
        told = is_within(one, other)
        self.assertIs(type(told), tuple)
        if told == ("within",):
            self.assertEqual(joined_pictures(one, other), other)
            return
        word, depth, cell = told
        self.assertEqual(word, "parts")
        self.assertNotEqual(joined_pictures(one, other), other)
        self.assertTrue(content_at(one, depth, cell).form)
        self.assertFalse(content_at(other, depth, cell).form)
        if one.base ** (depth * one.sides) <= 300:
            self.assertEqual(told_of_cells(one, other, depth)[0], cell)
            for less in range(depth):
                self.assertEqual(told_of_cells(one, other, less), [])

    def test_both_ways_round(self):
        for sides, base in KINDS:
            pictures = sample_pictures(sides, base, 4)
            for one, other in product(pictures, repeat=2):
                self.check(one, other)

    def test_the_least_cell_at_the_least_depth(self):
        draw = random.Random(111)
        for base in (2, 3, 4):
            size = base ** 2
            for _ in range(12):
                words = [draw.choice(".#.") for _ in range(size * size)]
                one = self.drawn(base, words)
                words = [word if draw.random() < 0.9 else "." for word in words]
                self.check(one, self.drawn(base, words))

    def drawn(self, base, words):
        """The plane whose cells of depth 2 are drawn by these words, row by row."""
        size = base ** 2
        lines = [f"plane {base}", "kind a"]
        names = [[f"k{chr(97 + column)}{chr(97 + row)}" for column in range(base)] for row in range(base)]
        lines += [" ".join(row) for row in names]
        for row, column in product(range(base), repeat=2):
            lines.append("kind " + names[row][column])
            for step in range(base):
                begin = (base * row + step) * size + base * column
                lines.append(" ".join(words[begin:begin + base]))
        return Picture(Book("\n".join(lines)), "a")

    def test_within_itself_joined_and_met(self):
        for sides, base in KINDS:
            pictures = sample_pictures(sides, base, 4)
            for one, other in zip(pictures, pictures[1:]):
                self.assertEqual(is_within(one, one), ("within",))
                self.assertEqual(is_within(one, joined_pictures(one, other)), ("within",))
                self.assertEqual(is_within(met_pictures(one, other), other), ("within",))

    def test_points_of_a_picture_within_another_one(self):
        draw = random.Random(112)
        for sides, base in KINDS:
            for one, other in product(sample_pictures(sides, base, 3), repeat=2):
                if is_within(one, other) == ("within",):
                    for point in some_points(draw, sides, 8, SMALL):
                        self.assertTrue(has_point(other, written(point)) or not has_point(one, written(point)))

    def test_within_each_other_exactly_if_equal(self):
        for sides, base in KINDS:
            for one, other in product(sample_pictures(sides, base, 3), repeat=2):
                both = is_within(one, other) == is_within(other, one) == ("within",)
                self.assertEqual(both, one == other)

    def test_empty_pictures(self):
        for sides, base in KINDS:
            empty = empty_picture(sides, base)
            self.assertEqual(is_within(empty, empty), ("within",))
            for picture in sample_pictures(sides, base, 2)[1:]:
                self.assertEqual(is_within(empty, picture), ("within",))
                self.assertEqual(is_within(picture, empty), ("parts", 0, (0,) * sides))

    def test_depth_0_only_if_other_is_empty(self):
        for sides, base in KINDS:
            for one, other in product(sample_pictures(sides, base, 3)[1:], repeat=2):
                self.assertNotEqual(is_within(one, other)[1:], (0, (0,) * sides))

    def test_first_by_the_column_then_by_the_row(self):
        one = Picture(Book("plane 2\nkind a\nb b\nb b\nkind b\n. .\nb ."), "a")
        other = Picture(Book("plane 2\nkind a\n. .\n. b\nkind b\n. .\n. b"), "a")
        depth, cell = is_within(one, other)[1:]
        self.assertEqual(told_of_cells(one, other, depth)[0], cell)
        corners = Picture(Book("plane 3\nkind a\n. . b\n. . .\nb . .\nkind b\n. . .\n. b .\n. . ."), "a")
        middle = single_point(3, ((1, 2), (1, 2)))
        self.assertEqual(is_within(corners, middle), ("parts", 1, (0, 2)))

    def test_what_is_seen_at_a_great_depth_alone(self):
        half = Picture(Book("line 2\nkind a\n# ."), "a")
        near = single_point(2, ((31, 60),))
        self.assertEqual(is_within(near, half), ("parts", 6, (33,)))
        rows = tuple((at + 1, -1) for at in range(99)) + ((-1, 100), (99, -1))
        text = "line 2\n" + "\n".join(
            f"kind k{chr(97 + at // 26)}{chr(97 + at % 26)}\n" + " ".join(
                "." if part == -1 else f"k{chr(97 + part // 26)}{chr(97 + part % 26)}" for part in row
            ) for at, row in enumerate(rows)
        )
        # The point is 2 / 3 of 2 ** -99: it lies in the second cell of depth 100, in the third one of depth 101.
        deep = Picture(Book(text), "kaa")
        zero = single_point(2, ((0, 1),))
        self.assertEqual(is_within(deep, zero), ("parts", 100, (1,)))
        self.assertEqual(is_within(zero, deep), ("parts", 100, (0,)))


class UnlikeTest(unittest.TestCase):

    def test_pairs_that_are_not_alike_in_kind(self):
        for one, other in product(KINDS, repeat=2):
            for make in (empty_picture, whole_picture):
                error = error_of(is_within, make(*one), make(*other))
                if one == other:
                    self.assertIsNone(error)
                else:
                    self.assertIs(type(error), Unlike)
                    self.assertEqual(error.value, other)


class SymmetriesTest(unittest.TestCase):

    def test_as_turned_pictures_tell(self):
        for sides, base in KINDS:
            for picture in sample_pictures(sides, base, 10):
                motions = range(len(TABLES[sides]))
                told = tuple(motion for motion in motions if turned_picture(picture, motion) == picture)
                self.assertEqual(symmetries_of(picture), told)
                self.assertEqual(told[0], 0)
                for one, other in product(told, repeat=2):
                    self.assertIn(joint_motion(sides, one, other), told)
                    self.assertIn(back_motion(sides, one), told)

    def test_by_points(self):
        draw = random.Random(113)
        for sides, base in KINDS:
            for picture in sample_pictures(sides, base, 4):
                for motion in symmetries_of(picture):
                    for point in some_points(draw, sides, 6, SMALL):
                        moved = TABLES[sides][motion](*point)
                        self.assertEqual(has_point(picture, written(point)), has_point(picture, written(moved)))

    def test_symmetries_that_are_told_out(self):
        told = (
            ("plane 2\nkind a\na .\n. a", (0, 2, 5, 7)), ("plane 2\nkind a\na .\n. .", (0, 7)),
            ("plane 2\nkind a\n# #\n. .", (0, 4)), ("plane 2\nkind a\n# .\n# .", (0, 6)),
            ("plane 2\nkind a\n. a\na .", (0, 2, 5, 7)), ("plane 2\nkind a\n. #\n. .", (0, 5)),
            ("plane 2\nkind a\nb b/1\nb/3 b/2\nkind b\n# .\n. .", tuple(range(8))),
            ("plane 4\nkind a\n. # . .\n. . . #\n# . . .\n. . # .", (0, 1, 2, 3)),
            ("plane 4\nkind a\n. # . .\n. . . .\n. . . .\n. . # .", (0, 2)),
            ("plane 3\nkind a\n# # .\n. . .\n. . .", (0,)),
            ("line 2\nkind a\na .", (0,)), ("line 3\nkind a\na . a", (0, 1)), ("line 2\nkind a\na a/1", (0, 1)),
        )
        for text, motions in told:
            self.assertEqual(symmetries_of(Picture(Book(text), "a")), motions, text)

    def test_empty_and_whole_pictures(self):
        for sides, base in KINDS:
            every = tuple(range(len(TABLES[sides])))
            self.assertEqual(symmetries_of(empty_picture(sides, base)), every)
            self.assertEqual(symmetries_of(whole_picture(sides, base)), every)

    def test_turned_pictures_have_turned_symmetries(self):
        for base in (2, 3, 4):
            for picture in sample_pictures(2, base, 4):
                for motion in range(8):
                    back = back_motion(2, motion)
                    there = {joint_motion(2, joint_motion(2, back, one), motion) for one in symmetries_of(picture)}
                    self.assertEqual(symmetries_of(turned_picture(picture, motion)), tuple(sorted(there)))
