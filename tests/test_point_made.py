"""Section 15: point_made and needs_at."""

import random
import unittest
from fractions import Fraction
from itertools import chain, combinations

from selfdrawn.errors import BadLots, BadPoint
from selfdrawn.forall import needs_at
from selfdrawn.making import joined_pictures
from selfdrawn.pictures import empty_picture, single_point
from selfdrawn.points import has_point
from selfdrawn.programs import Program, point_made, worked_out
from tests.helpers import HUGE, TABLES, check_refused, error_of
from tests.samples import SMALL, written
from tests.slow_programs import likely_fractions, some_programs, told_needs
from tests.values import NOTHINGS, NUMBERS_OUT, no_tuples

HALF = ((1, 2), (1, 2))
FINEST = 10 ** 60
NO_FINE_POINTS = no_tuples() + (
    (), ((1, 2),), ((1, 2),) * 3, ((1, 2), (2, 4)), ((2, 4), (1, 2)), ((3, 2), (1, 2)), ((1, 2), (-1, 2)), ((1, 2), (1, 0)),
    ((True, 2), (1, 2)), ((1, 2), (1, True)), ((1, 2), [1, 2]), [(1, 2), (1, 2)], (1, 2), ((1, 2), None), (("1", 2), (1, 2)),
    ((1, FINEST + 1), (1, 2)), ((1, 2), (1, FINEST + 1)), ((1, HUGE), (1, 2)), ((HUGE, HUGE), (0, 1)), ((2, 1), (0, 1)), (0, 1),
    ((1, 2, 3), (1, 2)), ((0, 2), (1, 2)),
)


def lots_with(program, pairs):
    """Lots in which the inputs have just these pairs (input, point)."""
    return tuple(tuple(sorted(point for name, point in pairs if name == wanted)) for wanted in program.inputs)


def picture_of(base, lot):
    picture = empty_picture(2, base)
    for point in lot:
        picture = joined_pictures(picture, single_point(base, point))
    return picture


class PointMadeTest(unittest.TestCase):

    def test_each_word(self):
        third = ((1, 3), (1, 4))
        for text, point, lots, told in (
            ("r = joined a b", third, ((third,), ()), True), ("r = joined a b", third, ((), (third,)), True),
            ("r = joined a b", third, ((HALF,), (HALF,)), False), ("r = met a b", third, ((third,), ()), False),
            ("r = met a b", third, ((HALF, third), (third,)), True), ("r = turned a 1", ((3, 4), (1, 3)), ((third,),), True),
            ("r = turned a 3", ((3, 4), (1, 3)), ((third,),), False), ("r = turned a 4", ((2, 3), (1, 4)), ((third,),), True),
            ("r = moved a 1/2 1/4", ((5, 6), (1, 2)), ((third,),), True), ("r = moved a 1/2 1/4", third, ((third,),), False),
            ("r = lesser a 2 1 0", ((2, 3), (1, 8)), ((third,),), True), ("r = lesser a 2 0 0", ((2, 3), (1, 8)), ((third,),), False),
            ("r = zoomed a 2 0 0", ((2, 3), (1, 2)), ((third,),), True), ("r = zoomed a 2 1 0", ((2, 3), (1, 2)), ((third,),), False),
        ):
            self.assertIs(point_made(Program(text), lots, point), told, text)

    def test_what_leaves_the_square_is_cut_off(self):
        back = Program("c = moved a 1/2 0\nd = moved c -1/2 0")
        for number, told in (((0, 1), True), ((1, 2), True), ((501, 1000), False), ((1, 1), False)):
            point = (number, (1, 3))
            self.assertIs(point_made(back, ((point,),), point), told)
        for number, told in (((1, 2), True), ((1, 1), True), ((499, 1000), False)):
            small = Program("c = lesser a 2 1 0")
            made = point_made(small, ((((0, 1), (0, 1)), ((1, 1), (0, 1))),), (number, (0, 1)))
            self.assertIs(made, told)
        up = Program("c = moved a 0 -1")
        self.assertIs(point_made(up, ((((1, 2), (1, 1)),),), ((1, 2), (0, 1))), True)
        self.assertIs(point_made(up, ((((1, 2), (0, 1)),),), ((1, 2), (1, 1))), False)

    def test_against_worked_out(self):
        draw = random.Random(320)
        made = set()
        for program in some_programs(draw, 30, 3, 2):
            base = draw.choice((2, 3, 4))
            lots = tuple(tuple(sorted(set(self.small_points(draw, 3)))) for _ in program.inputs)
            result = worked_out(program, tuple(picture_of(base, lot) for lot in lots))
            places = self.small_points(draw, 8) + [point for point in self.ends(program, lots) if max(low for _, low in point) <= 60]
            for point in places:
                told = point_made(program, lots, point)
                self.assertEqual(has_point(result, point), told, (program.text, lots, point))
                made.add(told)
        self.assertEqual(made, {True, False})

    def small_points(self, draw, many):
        return [written((draw.choice(SMALL), draw.choice(SMALL))) for _ in range(many)]

    def ends(self, program, lots):
        """Points to which the steps of a program lead the points of the lots."""
        found = [tuple(Fraction(*part) for part in point) for lot in lots for point in lot]
        for step in program.steps:
            told = []
            for x, y in found:
                if step[1] == "turned":
                    told.append(TABLES[2][step[3]](x, y))
                elif step[1] == "moved":
                    told.append((x + Fraction(*step[3]), y + Fraction(*step[4])))
                elif step[1] == "lesser":
                    told.append(((x + step[4]) / step[3], (y + step[5]) / step[3]))
                elif step[1] == "zoomed":
                    told.append((step[3] * x - step[4], step[3] * y - step[5]))
            found += [point for point in told if all(0 <= number <= 1 for number in point)][:12]
        return [written(point) for point in found]

    def test_points_with_great_lows(self):
        low = FINEST - 1
        point = ((low - 1, low), (1, FINEST))
        same = Program("r = turned a 2\ns = turned r 2")
        self.assertIs(point_made(same, ((point,),), point), True)
        self.assertIs(point_made(same, (((((1, low)), (1, FINEST)),),), point), False)
        away = Program("r = zoomed a 3 1 1\ns = lesser r 3 1 1")
        self.assertIs(point_made(away, (((((1, 2)), (1, 2)),),), HALF), True)
        self.assertIs(point_made(away, ((point,),), point), False)

    def test_programs_with_many_atoms(self):
        text = "b = moved a 1/12 0\nc = joined a b\nd = moved c 1/6 0\ne = joined c d\nf = moved e 1/3 0\ng = joined e f\nh = turned g 4"
        program = Program(text)
        for place in range(13):
            told = point_made(program, ((((0, 1), (0, 1)),),), written((Fraction(12 - place, 12), 0)))
            self.assertIs(told, place <= 7)

    def test_lots(self):
        program = Program("r = joined a b")
        point = ((1, 2), (1, 3))
        fine = ((1, FINEST), (0, 1))
        self.assertIs(point_made(program, ((), ()), point), False)
        self.assertIs(point_made(program, ((HALF, point), (fine,)), fine), True)
        for value in no_tuples() + (
            (), ((),), ((), (), ()), ((), None), (None, ()), ([], ()), ((), []), [(), ()], (point, point), ((point,), point),
            ((point, point), ()), (((point,),), ()), ((((2, 3), (0, 1)), ((1, 2), (0, 1))), ()),
            ((), (point, HALF)), (((1, 2),), ()), ({}, ()), ("", ()), ((True,), ()),
        ):
            check_refused(self, BadLots, value, point_made, program, value, point)
            check_refused(self, BadLots, value, point_made, program, value, None)
        for value in NO_FINE_POINTS:
            lots = ((value,), ())
            check_refused(self, BadLots, lots, point_made, program, lots, point)
            lots = ((), (((0, 1), (0, 1)), value))
            check_refused(self, BadLots, lots, point_made, program, lots, None)

    def test_ascending_as_python_sorts(self):
        program = Program("r = turned a 0")
        one, other = ((1, 2), (0, 1)), ((1, 3), (0, 1))
        self.assertIs(point_made(program, ((one, other),), one), True)
        lots = ((other, one),)
        check_refused(self, BadLots, lots, point_made, program, lots, one)

    def test_points(self):
        program = Program("r = joined a b")
        for value in NO_FINE_POINTS:
            check_refused(self, BadPoint, value, point_made, program, ((), ()), value)
            check_refused(self, BadPoint, value, needs_at, program, value)


class NeedsTest(unittest.TestCase):

    def test_against_a_slow_check(self):
        draw = random.Random(321)
        for program in some_programs(draw, 150, 7, 3):
            for point in likely_fractions(draw, 5):
                self.assertEqual(needs_at(program, written(point)), told_needs(program.text, point), (program.text, point))

    def test_each_told_set_makes_the_point_and_none_without_one_of_its_pairs_does(self):
        draw = random.Random(322)
        most = 0
        for program in some_programs(draw, 120, 8, 3, ("joined", "met", "met", "turned", "moved", "lesser", "zoomed")):
            for point in likely_fractions(draw, 3):
                told = needs_at(program, written(point))
                for pairs in told:
                    self.assertTrue(point_made(program, lots_with(program, pairs), written(point)))
                    for left in range(len(pairs)):
                        fewer = pairs[:left] + pairs[left + 1:]
                        self.assertFalse(point_made(program, lots_with(program, fewer), written(point)))
                    most = max(most, len(pairs))
                # Lots make the point just if one of the sets is in them.
                every = sorted(set(chain(*told)))
                for many in range(min(3, len(every)) + 1):
                    for chosen in combinations(every, many):
                        made = point_made(program, lots_with(program, chosen), written(point))
                        self.assertEqual(made, any(set(pairs) <= set(chosen) for pairs in told))
        self.assertGreater(most, 2)

    def test_the_order_of_the_sets(self):
        program = Program("d = met b c\ne = met a c\nf = joined d e\ng = joined f a")
        told = ((("a", HALF),), (("b", HALF), ("c", HALF)))
        self.assertEqual(needs_at(program, HALF), told)
        program = Program("d = met c b\ne = met c a\nf = joined d e\ng = met a b\nh = joined f g")
        told = ((("a", HALF), ("b", HALF)), (("a", HALF), ("c", HALF)), (("b", HALF), ("c", HALF)))
        self.assertEqual(needs_at(program, HALF), told)
        # Points as Python sorts them: (1, 2) ahead of (1, 3), (1, 4) ahead of (3, 4).
        program = Program("b = turned a 4\nc = joined a b\nd = moved a 1/6 0\ne = joined c d")
        told = needs_at(program, ((1, 2), (1, 4)))
        self.assertEqual(told, ((("a", ((1, 2), (1, 4))),), (("a", ((1, 3), (1, 4))),)))
        told = needs_at(program, ((1, 4), (0, 1)))
        self.assertEqual([pairs[0][1][0] for pairs in told], [(1, 4), (1, 12), (3, 4)])

    def test_no_set_is_enough(self):
        for text, point in (
            ("b = moved a 1/2 0", ((1, 4), (0, 1))), ("b = lesser a 2 1 1", ((1, 4), (3, 4))), ("b = lesser a 4 0 0", HALF),
            ("c = moved a 1/2 0\nd = met c b", ((1, 4), (0, 1))), ("b = moved a 1 1\nc = moved b 1 1", ((1, 1), (0, 1))),
        ):
            self.assertEqual(needs_at(Program(text), point), ())

    def test_on_seams(self):
        program = Program("b = lesser a 2 0 0\nc = lesser a 2 1 0\nd = joined b c")
        told = ((("a", ((0, 1), (1, 2))),), (("a", ((1, 1), (1, 2))),))
        self.assertEqual(needs_at(program, ((1, 2), (1, 4))), told)
        self.assertEqual(needs_at(program, ((1, 4), (1, 4))), ((("a", ((1, 2), (1, 2))),),))
        both = Program("b = lesser a 2 0 0\nc = lesser a 2 1 0\nd = met b c")
        self.assertEqual(needs_at(both, ((1, 2), (1, 4))), ((("a", ((0, 1), (1, 2))), ("a", ((1, 1), (1, 2)))),))
        self.assertEqual(needs_at(both, ((1, 4), (1, 4))), ())

    def test_pairs_that_are_one_at_a_point(self):
        program = Program("b = turned a 4\nc = met a b")
        self.assertEqual(needs_at(program, ((1, 2), (1, 3))), ((("a", ((1, 2), (1, 3))),),))
        self.assertEqual(len(needs_at(program, ((1, 3), (1, 3)))[0]), 2)

    def test_absorbed_sets(self):
        self.assertEqual(needs_at(Program("c = met a b\nd = joined a c"), HALF), ((("a", HALF),),))
        self.assertEqual(needs_at(Program("c = joined a b\nd = met a c"), HALF), ((("a", HALF),),))

    def test_great_lows(self):
        point = ((1, FINEST), (FINEST - 1, FINEST))
        self.assertEqual(needs_at(Program("r = turned a 2"), point), ((("a", ((FINEST - 1, FINEST), (1, FINEST))),),))
        told = needs_at(Program("r = zoomed a 4 3 0"), point)
        self.assertEqual(told, ((("a", ((3 * FINEST + 1, 4 * FINEST), (FINEST - 1, 4 * FINEST))),),))

    def test_what_is_refused(self):
        program = Program("r = turned a 1")
        for value in NOTHINGS + NUMBERS_OUT + (0, ((1, 2),)):
            check_refused(self, BadPoint, value, needs_at, program, value)
        self.assertIsNone(error_of(needs_at, program, ((1, FINEST), (FINEST - 1, FINEST))))
