"""Section 13: left_picture, outside_of, edge_of, solid_part, inside_cell."""

import random
import unittest
from itertools import product

from selfdrawn.beside import is_within
from selfdrawn.books import Book
from selfdrawn.counts import area_of, how_many
from selfdrawn.errors import Unlike
from selfdrawn.inside import edge_of, inside_cell, left_picture, outside_of, solid_part
from selfdrawn.making import joined_pictures, met_pictures, put_together, turned_picture
from selfdrawn.moves import moved_picture
from selfdrawn.pictures import Picture, content_at, empty_picture, single_point, whole_picture
from selfdrawn.points import has_point, point_cells
from selfdrawn.scaling import lesser_picture
from tests.helpers import TABLES, error_of
from tests.samples import KINDS, SMALL, cells_that_meet, sample_pictures, small_pictures, some_points, written
from tests.values import LINE, PLANE

# At so great a depth no cell is left by chance in the pictures that are looked at here.
DEEP = 40


def is_left(one, other, point):
    """Whether at a great depth some cell with this point has a point of one that is not in other."""
    cells = point_cells(one.base, DEEP, written(point))
    pairs = [(content_at(one, DEEP, cell), content_at(other, DEEP, cell)) for cell in cells]
    return any(is_within(*pair) != ("within",) for pair in pairs)


class LeftTest(unittest.TestCase):

    def test_points_by_cells(self):
        draw = random.Random(240)
        for sides, base in KINDS:
            found = {True: 0, False: 0}
            pictures = sample_pictures(sides, base, 3, 20)
            pairs = list(product(pictures, repeat=2))
            for one, other in draw.sample(pairs, 14):
                left = left_picture(one, other)
                for point in some_points(draw, sides, 8, SMALL):
                    told = is_left(one, other, point)
                    self.assertEqual(has_point(left, written(point)), told)
                    found[told] += 1
            self.assertTrue(found[True] and found[False])

    def test_cells_that_meet_what_is_left(self):
        # A cell meets what is left if it, or a cell beside it, has left points near the common side at all depths.
        for sides, base in KINDS:
            pictures = sample_pictures(sides, base, 3, 12)
            for one, other in zip(pictures, pictures[1:]):
                left = left_picture(one, other)
                for cell in product(range(base), repeat=sides):
                    own = left_picture(content_at(one, 1, cell), content_at(other, 1, cell))
                    self.assertEqual(is_within(own, content_at(left, 1, cell)), ("within",))
                told = put_together(tuple(
                    left_picture(content_at(one, 1, cell[::-1]), content_at(other, 1, cell[::-1]))
                    for cell in product(range(base), repeat=sides)
                ))
                self.assertEqual(told, left)

    def test_what_is_left_joined_with_what_both_have(self):
        for sides, base in KINDS:
            pictures = sample_pictures(sides, base, 4, 30)
            for one, other in zip(pictures, pictures[1:] + pictures[:1]):
                left = left_picture(one, other)
                self.assertEqual(is_within(left, one), ("within",))
                self.assertEqual(joined_pictures(left, met_pictures(one, other)), one)
                self.assertEqual(left_picture(left, other), left)
                self.assertEqual(left_picture(joined_pictures(one, other), other), left)

    def test_nothing_is_left_just_within_the_other_one(self):
        for sides, base in KINDS:
            pictures = sample_pictures(sides, base, 4, 30)
            for one, other in zip(pictures, pictures[2:]):
                self.assertEqual(left_picture(one, other).form == (), is_within(one, other) == ("within",))
                self.assertEqual(left_picture(one, joined_pictures(one, other)), empty_picture(sides, base))
                self.assertEqual(left_picture(one, one), empty_picture(sides, base))
                self.assertEqual(left_picture(one, empty_picture(sides, base)), one)
                self.assertEqual(left_picture(empty_picture(sides, base), one), empty_picture(sides, base))

    def test_a_point_that_is_left_can_be_in_the_other_one_too(self):
        book = Book("line 2\nkind a\n# .\nkind b\n. #\nkind w\n# #\nkind p\np .")
        left, right, whole, point = [Picture(book, name) for name in book.names]
        self.assertEqual(left_picture(whole, left), right)
        self.assertEqual(left_picture(whole, point), whole)
        self.assertEqual(left_picture(left, right), left)
        self.assertEqual(left_picture(left, point), left)
        self.assertEqual(left_picture(point, left), empty_picture(1, 2))
        self.assertEqual(left_picture(point, right), point)

    def test_of_finitely_many_points_just_the_others_are_left(self):
        draw = random.Random(241)
        for sides, base in KINDS:
            points = list(dict.fromkeys(some_points(draw, sides, 6, SMALL)))
            one, other = points[:4], points[2:]
            pictures = []
            for chosen in (one, other, [point for point in one if point not in other]):
                picture = empty_picture(sides, base)
                for point in chosen:
                    picture = joined_pictures(picture, single_point(base, written(point)))
                pictures.append(picture)
            self.assertEqual(left_picture(pictures[0], pictures[1]), pictures[2])

    def test_without_a_point_a_dust_is_whole_again(self):
        dust = Picture(Book("line 3\nkind a\na . a"), "a")
        for point in ((0, 1), (1, 1), (1, 3), (1, 4)):
            self.assertEqual(left_picture(dust, single_point(3, (point,))), dust)
        steps = Picture(Book("line 2\nkind a\na b\nkind b\nb ."), "a")
        # The points 1/2, 1/4, .. and 0: without 1/2 the others are left, without 0 they come near it still.
        self.assertEqual(left_picture(steps, single_point(2, ((0, 1),))), steps)
        self.assertFalse(has_point(left_picture(steps, single_point(2, ((1, 2),))), ((1, 2),)))
        self.assertTrue(has_point(left_picture(steps, single_point(2, ((1, 2),))), ((1, 4),)))

    def test_turned_along(self):
        for sides, base in KINDS:
            pictures = small_pictures(sides, base, 4, 20)
            for motion in range(len(TABLES[sides])):
                one, other = pictures[motion % len(pictures)], pictures[-1]
                told = left_picture(turned_picture(one, motion), turned_picture(other, motion))
                self.assertEqual(told, turned_picture(left_picture(one, other), motion))

    def test_unlike_pictures(self):
        for one, other in ((PLANE, LINE), (LINE, PLANE), (PLANE, whole_picture(2, 3)), (LINE, whole_picture(1, 2))):
            raised = error_of(left_picture, one, other)
            self.assertEqual((type(raised), raised.value), (Unlike, (other.sides, other.base)))


class OutsideTest(unittest.TestCase):

    def test_outside_again_and_again(self):
        for sides, base in KINDS:
            for picture in sample_pictures(sides, base, 4, 30):
                outside = outside_of(picture)
                solid = solid_part(picture)
                self.assertEqual(outside, left_picture(whole_picture(sides, base), picture))
                self.assertEqual(solid, outside_of(outside))
                self.assertEqual(outside_of(solid), outside)
                self.assertEqual(joined_pictures(picture, outside), whole_picture(sides, base))
                self.assertEqual(met_pictures(picture, outside), edge_of(picture))

    def test_the_edge(self):
        for sides, base in KINDS:
            for picture in sample_pictures(sides, base, 4, 20):
                edge = edge_of(picture)
                self.assertEqual(area_of(edge), (0, 1))
                self.assertEqual(inside_cell(edge), ("thin",))
                self.assertEqual(edge_of(edge), edge)
                self.assertEqual(solid_part(edge), empty_picture(sides, base))
                self.assertEqual(joined_pictures(solid_part(picture), edge), picture)

    def test_solid_parts(self):
        for sides, base in KINDS:
            for picture in sample_pictures(sides, base, 4, 20):
                solid = solid_part(picture)
                self.assertEqual(is_within(solid, picture), ("within",))
                self.assertEqual(solid_part(solid), solid)
                self.assertEqual(area_of(solid), area_of(picture))
                self.assertEqual(solid.form == (), inside_cell(picture) == ("thin",))
                self.assertEqual(inside_cell(solid), inside_cell(picture))

    def test_points_of_the_outside(self):
        draw = random.Random(242)
        for sides, base in KINDS:
            for picture in sample_pictures(sides, base, 3, 20):
                outside, edge, solid = outside_of(picture), edge_of(picture), solid_part(picture)
                for point in some_points(draw, sides, 10, SMALL):
                    told = written(point)
                    cells = point_cells(base, DEEP, told)
                    full = all(content_at(picture, DEEP, cell) == whole_picture(sides, base) for cell in cells)
                    self.assertEqual(has_point(outside, told), not full)
                    self.assertEqual(has_point(edge, told), has_point(picture, told) and not full)
                    near = any(inside_cell(content_at(picture, DEEP, cell)) != ("thin",) for cell in cells)
                    self.assertEqual(has_point(solid, told), near)

    def test_points_on_the_sides_of_the_square_can_be_inner_points(self):
        for sides, base in KINDS:
            whole, blank = whole_picture(sides, base), empty_picture(sides, base)
            self.assertEqual(outside_of(whole), blank)
            self.assertEqual(outside_of(blank), whole)
            self.assertEqual(edge_of(whole), blank)
            self.assertEqual(edge_of(blank), blank)
            self.assertEqual(solid_part(whole), whole)
        half = Picture(Book("plane 2\nkind a\n# .\n# ."), "a")
        edge = edge_of(half)
        points = [((0, 1), (1, 3)), ((1, 3), (0, 1)), ((0, 1), (0, 1)), ((1, 2), (1, 3)), ((1, 2), (0, 1)), ((1, 2), (1, 1))]
        self.assertEqual([has_point(edge, point) for point in points], [False] * 3 + [True] * 3)

    def test_a_square_within(self):
        square = Picture(Book("plane 4\nkind a\n. . . .\n. # # .\n. # # .\n. . . ."), "a")
        rim = edge_of(square)
        told = [Picture(Book(f"plane 4\nkind a\n{text}"), "a") for text in (
            ". . . .\n. u u .\n. . . .\n. . . .\nkind u\nu u u u\n. . . .\n. . . .\n. . . .",
            ". . . .\n. l . .\n. l . .\n. . . .\nkind l\nl . . .\nl . . .\nl . . .\nl . . .",
        )]
        sides = told + [turned_picture(picture, 2) for picture in told]
        joined = sides[0]
        for side in sides[1:]:
            joined = joined_pictures(joined, side)
        self.assertEqual(rim, joined)
        self.assertEqual(how_many(rim), ("more",))

    def test_thin_pictures_are_their_edges(self):
        for text in ("plane 2\nkind a\na .\na a", "plane 2\nkind a\na .\n. a", "line 3\nkind a\na . a", "line 2\nkind a\na .",
                     "plane 3\nkind a\na a a\na . a\na a a"):
            picture = Picture(Book(text), "a")
            self.assertEqual(edge_of(picture), picture)
            self.assertEqual(outside_of(picture), whole_picture(picture.sides, picture.base))
            self.assertEqual(solid_part(picture), empty_picture(picture.sides, picture.base))
            self.assertEqual(inside_cell(picture), ("thin",))


class InsideCellTest(unittest.TestCase):

    def told(self, picture, deepest):
        """The least depth, and cell, at which a cell is full, by all cells of each depth."""
        for depth in range(deepest + 1):
            cells = cells_that_meet(picture, depth)
            full = [cell for cell, number in cells.items() if set(picture.form[number]) == {number}]
            if full:
                return "inside", depth, min(full)
        return None

    def test_by_all_cells(self):
        seen = set()
        for sides, base in KINDS:
            deepest = {2: 5, 3: 3, 4: 2}[base] * (3 - sides)
            pictures = sample_pictures(sides, base, 8)
            pictures += [lesser_picture(picture, many, (many - 1,) * sides) for picture in pictures[1:6] for many in (2, 3)]
            for picture in pictures:
                told = inside_cell(picture)
                found = self.told(picture, deepest)
                if found:
                    self.assertEqual(told, found)
                elif told != ("thin",):
                    self.assertGreater(told[1], deepest)
                seen.add(told[:2])
        self.assertGreater(len(seen), 3)

    def test_of_several_cells_the_least_one(self):
        for text, told in (
            ("plane 2\nkind a\n. #\n# .", (1, (0, 1))),
            ("plane 2\nkind a\nb b\nb b\nkind b\n. .\n# #", (2, (0, 1))),
            ("plane 2\nkind a\nb c\n. .\nkind b\n. d\n. .\nkind c\n# .\n. .\nkind d\n# #\n# #", (2, (1, 0))),
            ("plane 3\nkind a\n. . #\n. # .\n# . .", (1, (0, 2))),
            ("plane 2\nkind a\na/4 b\n. .\nkind b\n. .\n. #", (2, (3, 1))),
            ("line 4\nkind a\n. . a/1 b\nkind b\n. b # #", (2, (14,))),
            ("line 2\nkind a\n# #", (0, (0,))),
            ("plane 2\nkind a\nb b\nb b\nkind b\n# #\n# #", (0, (0, 0))),
        ):
            self.assertEqual(inside_cell(Picture(Book(text), "a")), ("inside",) + told, text)

    def test_great_depths(self):
        names = ["k" + chr(97 + number // 26) + chr(97 + number % 26) for number in range(60)]
        lines = ["plane 2"]
        for name, below in zip(names, names[1:] + ["#"]):
            lines += ["kind " + name, ". .", f". {below}"]
        size = 2 ** 60
        self.assertEqual(inside_cell(Picture(Book("\n".join(lines)), names[0])), ("inside", 60, (size - 1, size - 1)))

    def test_cells_that_are_full_by_cells_beside(self):
        # The whole is moved by a third: its cells are full although none of them is drawn so at once.
        moved = moved_picture(whole_picture(2, 2), ((1, 3), (-1, 3)))
        self.assertEqual(inside_cell(moved), ("inside", 1, (1, 0)))
        self.assertEqual(inside_cell(moved_picture(whole_picture(1, 3), ((-11, 12),))), ("inside", 3, (0,)))
        self.assertEqual(inside_cell(moved_picture(whole_picture(1, 3), ((1, 1),))), ("thin",))
