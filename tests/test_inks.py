"""Section 14: inks."""

import random
import unittest
from itertools import product

from selfdrawn.beside import is_within
from selfdrawn.books import Book
from selfdrawn.errors import BadCell, BadNumber, BadPictures, BadPoint, Unlike
from selfdrawn.inks import exchange_seen, ink_at, inks_in, same_inks, unseen_inks
from selfdrawn.inside import left_picture
from selfdrawn.making import joined_pictures, met_pictures
from selfdrawn.pictures import Picture, content_at, empty_picture, single_point, whole_picture
from selfdrawn.points import has_point
from tests.helpers import HUGE, check_refused, error_of
from tests.samples import KINDS, SMALL, cells_that_meet, sample_pictures, some_points, written
from tests.values import LINE, NOTHINGS, NUMBERS_OUT, PLANE, no_integers, no_tuples

BOOK = Book("plane 2\nkind left\n# .\n# .\nkind top\n# #\n. .\nkind corner\n# .\n. .\nkind right\n. #\n. .")
LEFT, TOP, CORNER, RIGHT = [Picture(BOOK, name) for name in BOOK.names]
# What is no tuple of one to eight pictures that are alike in kind.
NO_PICTURES = no_tuples() + (
    (), (PLANE,) * 9, (PLANE, LINE), (LINE, PLANE), (PLANE, whole_picture(2, 3)), (LINE, whole_picture(1, 2)), (None,),
    (PLANE, None), (True,), (PLANE, (PLANE,)), ([PLANE],), [PLANE], {0: PLANE}, (BOOK,), (PLANE.form,), (PLANE, HUGE),
)


def some_tuples(draw, sides, base, many):
    """Tuples of pictures, of one to eight, some of them with the same picture twice."""
    pictures = sample_pictures(sides, base, 5, 12)
    return [tuple(draw.choice(pictures) for _ in range(draw.choice((1, 2, 2, 3, 3, 4, 8)))) for _ in range(many)]


def joined_all(pictures, sides, base):
    told = empty_picture(sides, base)
    for picture in pictures:
        told = joined_pictures(told, picture)
    return told


class InkAtTest(unittest.TestCase):

    def test_the_uppermost_picture_that_has_the_point(self):
        draw = random.Random(250)
        found = set()
        for sides, base in KINDS:
            for pictures in some_tuples(draw, sides, base, 8):
                for point in some_points(draw, sides, 8, SMALL):
                    told = [number for number, picture in enumerate(pictures) if has_point(picture, written(point))]
                    seen = ink_at(pictures, written(point))
                    self.assertEqual(seen, told[0] if told else None)
                    found.add(seen)
        self.assertTrue({None, 0, 1, 2} <= found)

    def test_on_sides_and_corners(self):
        self.assertEqual(ink_at((LEFT, TOP), ((1, 2), (1, 2))), 0)
        self.assertEqual(ink_at((CORNER, TOP, LEFT), ((1, 2), (1, 2))), 0)
        self.assertEqual(ink_at((CORNER, TOP, LEFT), ((1, 2), (3, 4))), 2)
        self.assertEqual(ink_at((CORNER, RIGHT, LEFT), ((1, 1), (1, 2))), 1)
        self.assertEqual(ink_at((TOP,), ((1, 1), (2, 3))), None)
        self.assertEqual(ink_at((PLANE,) * 8, ((1, 3), (1, 3))), 0)

    def test_what_is_refused(self):
        for value in NO_PICTURES:
            for point in (((1, 2), (1, 2)), None, ((1, 2),)):
                check_refused(self, BadPictures, value, ink_at, value, point)
        for value in no_tuples() + ((), ((1, 2),), ((1, 2), (1, 61)), ((3, 2), (1, 2)), ((1, 2), (2, 4)), ((1, 2),) * 3,
                                    (1, 2), ((-1, 2), (1, 2)), ((True, 2), (1, 2)), ((HUGE, HUGE + 1), (0, 1))):
            check_refused(self, BadPoint, value, ink_at, (LEFT, TOP), value)
        for value in no_tuples() + ((), ((1, 2), (1, 2)), (1, 2), ((1, 61),), ((2, 1),)):
            check_refused(self, BadPoint, value, ink_at, (LINE,), value)


class UnseenTest(unittest.TestCase):

    def test_within_those_above(self):
        draw = random.Random(251)
        found = set()
        for sides, base in KINDS:
            for pictures in some_tuples(draw, sides, base, 8):
                told = []
                for number, picture in enumerate(pictures):
                    above = joined_all(pictures[:number], sides, base)
                    if is_within(picture, above) == ("within",):
                        told.append(number)
                self.assertEqual(unseen_inks(pictures), tuple(told))
                found.add(len(told))
        self.assertGreater(len(found), 2)

    def test_what_is_seen_is_what_is_left(self):
        draw = random.Random(252)
        for sides, base in KINDS:
            for pictures in some_tuples(draw, sides, base, 4):
                seen = [left_picture(picture, joined_all(pictures[:number], sides, base)) for number, picture in enumerate(pictures)]
                self.assertEqual(unseen_inks(pictures), tuple(number for number, left in enumerate(seen) if not left.form))

    def test_taken_out(self):
        draw = random.Random(253)
        for sides, base in KINDS:
            for pictures in some_tuples(draw, sides, base, 6):
                unseen = unseen_inks(pictures)
                kept = tuple(picture for number, picture in enumerate(pictures) if number not in unseen)
                if kept:
                    self.assertEqual(unseen_inks(kept), ())
                    for point in some_points(draw, sides, 6, SMALL):
                        told, fewer = ink_at(pictures, written(point)), ink_at(kept, written(point))
                        self.assertEqual(None if told is None else pictures[told], None if fewer is None else kept[fewer])

    def test_equal_and_empty_pictures(self):
        blank = empty_picture(2, 2)
        self.assertEqual(unseen_inks((blank,)), (0,))
        self.assertEqual(unseen_inks((blank, PLANE, blank, PLANE)), (0, 2, 3))
        self.assertEqual(unseen_inks((PLANE,) * 8), (1, 2, 3, 4, 5, 6, 7))
        self.assertEqual(unseen_inks((LEFT, RIGHT, TOP)), (2,))
        self.assertEqual(unseen_inks((whole_picture(1, 3), LINE)), (1,))

    def test_what_is_refused(self):
        for value in NO_PICTURES:
            check_refused(self, BadPictures, value, unseen_inks, value)


class InksInTest(unittest.TestCase):

    def told(self, pictures, depth, cell):
        """The inks of which something is left in this closed cell."""
        contents = [content_at(picture, depth, cell) for picture in pictures]
        sides, base = pictures[0].sides, pictures[0].base
        above = [joined_all(contents[:number], sides, base) for number in range(len(contents))]
        return tuple(number for number, content in enumerate(contents) if left_picture(content, above[number]).form)

    def test_by_what_is_left_in_cells(self):
        draw = random.Random(254)
        for sides, base in KINDS:
            for pictures in some_tuples(draw, sides, base, 4):
                for depth in (0, 1, 2, 200):
                    if depth < 200:
                        cell = tuple(draw.randrange(base ** depth) for _ in range(sides))
                    else:
                        cell = self.deep_cell(draw, pictures[0])
                    self.assertEqual(inks_in(pictures, depth, cell), self.told(pictures, depth, cell))

    def deep_cell(self, draw, picture):
        """A cell of depth 200 that meets the picture, if it is not empty."""
        number, cell = 0, (0,) * picture.sides
        for _ in range(200):
            row = picture.form[number] if picture.form else ()
            ways = [at for at, part in enumerate(row) if part != -1] or [0]
            at = draw.choice(ways)
            number = row[at] if row else 0
            step = (at % picture.base, at // picture.base)[:picture.sides]
            cell = tuple(picture.base * place + by for place, by in zip(cell, step))
        return cell

    def test_inks_at_points_of_a_cell(self):
        draw = random.Random(255)
        for sides, base in KINDS:
            for pictures in some_tuples(draw, sides, base, 4):
                for point in some_points(draw, sides, 6, SMALL):
                    seen = ink_at(pictures, written(point))
                    for depth in (0, 1, 3):
                        size = base ** depth
                        cell = tuple(min(int(number * size), size - 1) for number in point)
                        if seen is not None:
                            self.assertIn(seen, inks_in(pictures, depth, cell))

    def test_at_depth_0_all_that_are_seen(self):
        draw = random.Random(256)
        for sides, base in KINDS:
            for pictures in some_tuples(draw, sides, base, 4):
                told = inks_in(pictures, 0, (0,) * sides)
                self.assertEqual(sorted(told + unseen_inks(pictures)), list(range(len(pictures))))

    def test_sides_and_corners(self):
        self.assertEqual(inks_in((LEFT, TOP), 2, (2, 2)), (0, 1))
        self.assertEqual(inks_in((LEFT, TOP), 2, (3, 2)), (1,))
        self.assertEqual(inks_in((LEFT, TOP), 2, (3, 3)), ())
        self.assertEqual(inks_in((CORNER, TOP, LEFT), 2, (2, 2)), (0, 1, 2))
        half = 2 ** 199
        self.assertEqual(inks_in((CORNER, TOP, LEFT), 200, (half, half)), (0, 1, 2))
        self.assertEqual(inks_in((CORNER, TOP, LEFT), 200, (half, half + 1)), (2,))

    def test_what_is_refused(self):
        for value in NO_PICTURES:
            check_refused(self, BadPictures, value, inks_in, value, 1, (0, 0))
            check_refused(self, BadPictures, value, inks_in, value, None, None)
        for value in no_integers() + NUMBERS_OUT + (201,):
            check_refused(self, BadNumber, value, inks_in, (LEFT, TOP), value, (0, 0))
            check_refused(self, BadNumber, value, inks_in, (LINE,), value, None)
        for value in no_tuples() + ((), (0,), (0, 0, 0), (2, 0), (0, 2), (-1, 0), (True, 0), (0, None), (HUGE, 0)):
            check_refused(self, BadCell, value, inks_in, (LEFT, TOP), 1, value)
        for value in NOTHINGS + ((27,), (0, 0), (-1,)):
            check_refused(self, BadCell, value, inks_in, (LINE,), 3, value)


class SameInksTest(unittest.TestCase):

    def told(self, one, other):
        """What same_inks has to tell, by joining anew for each number."""
        sides, base = one[0].sides, one[0].base
        for number in range(max(len(one), len(other))):
            mine, others = [joined_all(pictures[:number + 1], sides, base) for pictures in (one, other)]
            if mine != others:
                told = [is_within(mine, others), is_within(others, mine)]
                return ("parts", number) + [parts[1:] for parts in told if parts[0] == "parts"][0]
        return ("same",)

    def test_against_joined_pictures(self):
        draw = random.Random(257)
        words = set()
        for sides, base in KINDS:
            tuples = some_tuples(draw, sides, base, 8)
            tuples += [pictures + (pictures[0],) for pictures in tuples if len(pictures) < 8]
            for one, other in product(tuples, repeat=2):
                if draw.random() < 0.3 or one[0] == other[0]:
                    told = same_inks(one, other)
                    self.assertEqual(told, self.told(one, other))
                    words.add(told[:2])
        self.assertTrue({("same",), ("parts", 0), ("parts", 1)} <= words)

    def test_by_points(self):
        draw = random.Random(258)
        for sides, base in KINDS:
            tuples = some_tuples(draw, sides, base, 6)
            for one, other in zip(tuples, tuples[1:] + tuples[:1]):
                if same_inks(one, other) == ("same",):
                    for point in some_points(draw, sides, 10, SMALL):
                        self.assertEqual(ink_at(one, written(point)), ink_at(other, written(point)))
                else:
                    _, number, depth, cell = same_inks(one, other)
                    mine, others = inks_in(one, depth, cell), inks_in(other, depth, cell)
                    shown = [any(ink <= number for ink in inks) for inks in (mine, others)]
                    self.assertEqual(sorted(shown), [False, True])

    def test_of_different_lengths(self):
        blank = empty_picture(2, 2)
        self.assertEqual(same_inks((LEFT,), (LEFT, CORNER)), ("same",))
        self.assertEqual(same_inks((LEFT, CORNER, LEFT), (LEFT,)), ("same",))
        self.assertEqual(same_inks((LEFT,), (LEFT, TOP)), ("parts", 1, 2, (3, 0)))
        self.assertEqual(same_inks((LEFT, TOP), (LEFT,)), ("parts", 1, 2, (3, 0)))
        self.assertEqual(same_inks((LEFT, blank), (LEFT, blank, CORNER)), ("same",))
        self.assertEqual(same_inks((blank, LEFT), (LEFT,)), ("parts", 0, 0, (0, 0)))
        self.assertEqual(same_inks((blank,), (blank,) * 8), ("same",))

    def test_what_one_has_is_told_ahead_of_what_other_has(self):
        # Each of both has something that the other one has not; in one's joined picture it is seen first.
        for one, other in ((LEFT, TOP), (TOP, LEFT)):
            self.assertEqual(same_inks((one,), (other,)), ("parts", 0) + is_within(one, other)[1:])
        self.assertEqual(same_inks((CORNER,), (TOP,)), ("parts", 0) + is_within(TOP, CORNER)[1:])

    def test_the_same_at_all_points_though_the_pictures_differ(self):
        self.assertEqual(same_inks((LEFT, TOP), (LEFT, RIGHT)), ("same",))
        self.assertEqual(same_inks((LEFT, TOP, CORNER), (LEFT, RIGHT, LEFT)), ("same",))

    def test_what_is_refused(self):
        for value in NO_PICTURES:
            check_refused(self, BadPictures, value, same_inks, value, (PLANE,))
            check_refused(self, BadPictures, value, same_inks, value, None)
            check_refused(self, BadPictures, value, same_inks, (PLANE,), value)
            check_refused(self, BadPictures, value, same_inks, (LINE,), value)
        for one, other in ((PLANE, LINE), (LINE, PLANE), (PLANE, whole_picture(2, 3)), (LINE, whole_picture(1, 2))):
            raised = error_of(same_inks, (one, one), (other,))
            self.assertEqual((type(raised), raised.value), (Unlike, (other.sides, other.base)))


class ExchangeTest(unittest.TestCase):

    def test_what_both_have_beside_those_above(self):
        draw = random.Random(259)
        words = set()
        for sides, base in KINDS:
            for pictures in some_tuples(draw, sides, base, 8):
                for number in range(len(pictures) - 1):
                    both = met_pictures(pictures[number], pictures[number + 1])
                    within = is_within(both, joined_all(pictures[:number], sides, base))
                    told = exchange_seen(pictures, number)
                    self.assertEqual(told, ("same",) if within == ("within",) else ("seen",) + within[1:])
                    words.add(told[0])
        self.assertEqual(words, {"same", "seen"})

    def test_by_points(self):
        draw = random.Random(260)
        for sides, base in KINDS:
            for pictures in some_tuples(draw, sides, base, 4):
                for number in range(len(pictures) - 1):
                    exchanged = list(pictures)
                    exchanged[number], exchanged[number + 1] = pictures[number + 1], pictures[number]
                    numbers = {number: number + 1, number + 1: number}
                    if exchange_seen(pictures, number) == ("same",):
                        for point in some_points(draw, sides, 6, SMALL):
                            told = ink_at(tuple(exchanged), written(point))
                            self.assertEqual(ink_at(pictures, written(point)), numbers.get(told, told))
                    else:
                        _, depth, cell = exchange_seen(pictures, number)
                        above = joined_all(pictures[:number], sides, base)
                        self.assertFalse(content_at(above, depth, cell).form)
                        for picture in pictures[number:number + 2]:
                            self.assertIn(cell, cells_that_meet(picture, depth) if depth < 5 else [cell])

    def test_equal_pictures_at_different_places(self):
        self.assertEqual(exchange_seen((PLANE, PLANE), 0), ("seen", 0, (0, 0)))
        self.assertEqual(exchange_seen((PLANE, PLANE, PLANE), 1), ("same",))
        self.assertEqual(exchange_seen((PLANE,) * 8, 6), ("same",))

    def test_the_first_and_the_last_number(self):
        pictures = (CORNER, RIGHT, LEFT, TOP)
        self.assertEqual([exchange_seen(pictures, number)[0] for number in range(3)], ["seen", "same", "same"])
        self.assertEqual(exchange_seen(pictures, 0), ("seen", 0, (0, 0)))
        for value in no_integers() + NUMBERS_OUT + (3, 4):
            check_refused(self, BadNumber, value, exchange_seen, pictures, value)
        for value in no_integers() + NUMBERS_OUT + (0, 1):
            check_refused(self, BadNumber, value, exchange_seen, (PLANE,), value)
        for value in NO_PICTURES:
            check_refused(self, BadPictures, value, exchange_seen, value, 0)
            check_refused(self, BadPictures, value, exchange_seen, value, None)

    def test_pictures_that_meet_in_a_point(self):
        for base in (2, 3, 4):
            one = single_point(base, ((1, 2), (1, 3)))
            self.assertEqual(exchange_seen((one, whole_picture(2, base)), 0), ("seen", 0, (0, 0)))
            self.assertEqual(exchange_seen((one, whole_picture(2, base), one), 1), ("same",))
