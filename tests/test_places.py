"""Section 6: place_of and fraction_of."""

import random
import unittest
from fractions import Fraction

from selfdrawn.errors import BadFraction, BadNumber, BadPlace
from selfdrawn.points import fraction_of, place_of
from tests.helpers import HUGE, check_refused
from tests.samples import fractions_with
from tests.slow import number_of
from tests.values import NOTHINGS, no_integers, no_tuples

BASES = (2, 3, 4)


def some_figures(draw, base, ahead, ring):
    return (tuple(draw.randrange(base) for _ in range(ahead)), tuple(draw.randrange(base) for _ in range(ring)))


def is_shortest(base, place):
    """Whether a tuple of figures is the place of its number, by trying all shorter ones."""
    ahead, ring = place
    if ring == (base - 1,) * len(ring):
        return place == ((), (base - 1,))
    number = number_of(base, ahead, ring)
    every = ahead + ring * 3
    for many in range(1, len(ring) + 1):
        for begin in range(len(ahead) + 1):
            told = (every[:begin], every[begin:begin + many])
            if number_of(base, *told) == number:
                return told == place
    return False


class ThereAndBackTest(unittest.TestCase):

    def test_all_fractions_at_each_base(self):
        for base in BASES:
            seen = {}
            for low in range(1, 61):
                for fraction in fractions_with(low):
                    place = place_of(base, fraction)
                    ahead, ring = place
                    self.assertEqual(number_of(base, ahead, ring), Fraction(*fraction))
                    self.assertTrue(all(type(figure) is int and 0 <= figure < base for figure in ahead + ring))
                    self.assertEqual([type(place), type(ahead), type(ring)], [tuple] * 3)
                    self.assertEqual(fraction_of(base, place), fraction)
                    self.assertEqual(seen.setdefault(place, fraction), fraction)

    def test_rings_and_what_is_ahead_are_as_short_as_can_be(self):
        for base in BASES:
            for low in range(1, 61):
                for fraction in fractions_with(low)[:6]:
                    self.assertTrue(is_shortest(base, place_of(base, fraction)), (base, fraction))

    def test_places_that_are_told_out(self):
        told = (
            (2, (0, 1), ((), (0,))), (3, (0, 1), ((), (0,))), (4, (0, 1), ((), (0,))),
            (2, (1, 1), ((), (1,))), (3, (1, 1), ((), (2,))), (4, (1, 1), ((), (3,))),
            (2, (1, 2), ((1,), (0,))), (3, (1, 2), ((), (1,))), (4, (1, 2), ((2,), (0,))),
            (2, (1, 3), ((), (0, 1))), (3, (1, 3), ((1,), (0,))), (4, (1, 3), ((), (1,))),
            (2, (2, 3), ((), (1, 0))), (4, (2, 3), ((), (2,))), (2, (5, 12), ((0, 1), (1, 0))),
            (2, (1, 6), ((0,), (0, 1))), (3, (1, 6), ((0,), (1,))), (4, (15, 16), ((3, 3), (0,))),
            (2, (1, 7), ((), (0, 0, 1))), (3, (1, 8), ((), (0, 1))), (3, (1, 4), ((), (0, 2))),
        )
        for base, fraction, place in told:
            self.assertEqual(place_of(base, fraction), place)
            self.assertEqual(fraction_of(base, place), fraction)

    def test_the_longest_rings(self):
        self.assertEqual([len(place_of(2, (1, 59))[1]), len(place_of(2, (7, 53))[1])], [58, 52])
        self.assertEqual([len(place_of(3, (1, 53))[1]), len(place_of(4, (1, 59))[1])], [52, 29])

    def test_places_with_greater_lows(self):
        draw = random.Random(81)
        found = 0
        for base in BASES:
            for _ in range(300):
                place = some_figures(draw, base, draw.randrange(6), draw.randrange(1, 7))
                if is_shortest(base, place):
                    number = number_of(base, *place)
                    found += number.denominator > 60
                    self.assertEqual(fraction_of(base, place), (number.numerator, number.denominator))
                else:
                    check_refused(self, BadPlace, place, fraction_of, base, place)
        self.assertGreater(found, 100)

    def test_places_of_400_figures(self):
        draw = random.Random(82)
        for base in BASES:
            for ahead, ring in ((399, 1), (200, 199), (0, 397), (1, 397)):
                place = some_figures(draw, base, ahead, ring)
                end = (0,) if ring == 1 else place[1][:-2] + (0, 1)
                place = (place[0][:-1] + (base - 1,) if ahead else (), end)
                if base == 2 and ahead and ring > 1:
                    place = (place[0][:-1] + (0,), end)
                number = number_of(base, *place)
                self.assertEqual(fraction_of(base, place), (number.numerator, number.denominator))


class RefusedTest(unittest.TestCase):

    def test_bases_that_are_none(self):
        for base in no_integers() + (0, 1, 5, -2, HUGE, -HUGE):
            check_refused(self, BadNumber, base, place_of, base, (1, 2))
            check_refused(self, BadNumber, base, place_of, base, None)
            check_refused(self, BadNumber, base, fraction_of, base, ((), (0,)))
            check_refused(self, BadNumber, base, fraction_of, base, None)

    def test_fractions_that_are_none(self):
        wrong = NOTHINGS + no_tuples() + (
            (), (1,), (1, 2, 3), (0, 2), (2, 2), (2, 4), (30, 60), (1, 61), (60, 61), (0, 61), (1, HUGE), (HUGE, HUGE),
            (-1, 2), (0, -1), (3, 2), (2, 1), (61, 60), (1, 0), (0, 0), (-1, -2), (1, -2), (HUGE, 1), (True, 2), (1, True),
            (False, 1), ("1", 2), (1, None), ((1,), 2), [1, 2],
        )
        for base in BASES:
            for value in wrong:
                check_refused(self, BadFraction, value, place_of, base, value)

    def test_values_that_are_no_pairs_of_tuples(self):
        wrong = NOTHINGS + no_tuples() + (
            (), ((),), (0, 1), ((0,),), ((), (0,), ()), [(), (0,)], ([], (0,)), ((), [0]), ([1], [0]), ((), "0"), ("", "01"),
            ((), 0), (None, (0,)), ((), None), ((), {0: 0}), (((),), (0,)), ((), ((0,),)),
        )
        for base in BASES:
            for value in wrong:
                check_refused(self, BadPlace, value, fraction_of, base, value)

    def test_figures_that_are_none(self):
        for base in BASES:
            for figure in (-1, base, base + 1, HUGE, -HUGE, True, False, None, "0", (0,), [0]):
                for place in (((), (figure,)), ((figure,), (0, 1)), ((1, figure), (0,)), ((), (0, figure)), ((), (figure, 1))):
                    check_refused(self, BadPlace, place, fraction_of, base, place)

    def test_an_empty_ring(self):
        for base in BASES:
            for ahead in ((), (0,), (1, 0), (1, 1)):
                value = (ahead, ())
                check_refused(self, BadPlace, value, fraction_of, base, value)

    def test_a_ring_told_more_than_once(self):
        for base in BASES:
            for ring in ((0, 0), (0, 1, 0, 1), (1, 0) * 3, (0, 0, 1) * 2, (0, 1, 1) * 5, (0,) * 7, (base - 1,) * 2):
                for ahead in ((), (0, 1)):
                    value = (ahead, ring)
                    check_refused(self, BadPlace, value, fraction_of, base, value)

    def test_a_ring_of_greatest_figures(self):
        for base in BASES:
            top = base - 1
            self.assertEqual(fraction_of(base, ((), (top,))), (1, 1))
            for ahead in ((0,), (top,), (0, 1), (1, 0), (0,) * 9):
                value = (ahead, (top,))
                check_refused(self, BadPlace, value, fraction_of, base, value)

    def test_a_figure_that_could_be_drawn_into_the_ring(self):
        for base in BASES:
            for value in (((0,), (0,)), ((1, 0), (0,)), ((0,), (1, 0)), ((1,), (0, 1)), ((0, 1), (0, 0, 1)), ((1, 1, 0), (1, 1, 0))):
                check_refused(self, BadPlace, value, fraction_of, base, value)
            for value in (((1,), (0,)), ((0, 1), (0,)), ((1,), (1, 0)), ((0,), (0, 1)), ((0, 0), (0, 0, 1))):
                self.assertEqual(Fraction(*fraction_of(base, value)), number_of(base, *value))
