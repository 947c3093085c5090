"""Section 15: same_program, shows_parts, needless_inputs."""

import random
import unittest

from selfdrawn.errors import OtherInputs
from selfdrawn.forall import needless_inputs, needs_at, same_program, shows_parts
from selfdrawn.programs import Program, point_made, worked_out
from tests.helpers import HUGE, error_of
from tests.samples import sample_pictures, written
from tests.slow_programs import likely_fractions, needs, some_fraction, some_programs
from tests.values import NOTHINGS, NUMBERS_OUT

HALF = ((1, 2), (1, 2))
# Programs, line by line, with the same result for all pictures.
SAME = (
    ("r = joined a b", "r = joined b a"),
    ("r = joined a b\ns = joined r c", "x = joined c b\ny = joined x a"),
    ("r = met a b\ns = joined r a", "r = joined a b\ns = met r a"),
    ("r = joined b c\ns = met a r", "x = met a b\ny = met a c\nz = joined x y"),
    ("r = met b c\ns = joined a r", "x = joined a b\ny = joined a c\nz = met x y"),
    ("r = turned a 1\ns = turned r 1", "r = turned a 2"),
    ("r = turned a 1\ns = turned r 4", "r = turned a 7"),
    ("r = turned a 5\ns = turned r 5\nt = joined s a", "r = met a a"),
    ("r = joined a b\ns = turned r 3", "r = turned a 3\ns = turned b 3\nt = joined r s"),
    ("r = lesser a 2 1 0\ns = zoomed r 2 1 0", "r = turned a 0"),
    ("r = lesser a 4 1 2", "r = lesser a 2 1 0\ns = lesser r 2 0 1"),
    ("r = zoomed a 4 1 2", "r = zoomed a 2 0 1\ns = zoomed r 2 1 0"),
    ("r = moved a 1/3 1/4\ns = moved r 1/3 1/4", "r = moved a 2/3 1/2"),
    ("r = moved a 1/2 0\ns = moved r 0 -1/2", "r = moved a 1/2 -1/2"),
    ("r = moved a 1/3 -1/4\ns = turned r 4", "r = turned a 4\ns = moved r -1/3 -1/4"),
    ("r = moved a 1/3 -1/4\ns = turned r 1", "r = turned a 1\ns = moved r 1/4 1/3"),
    ("r = joined a b\ns = moved r 1/2 1/3", "r = moved a 1/2 1/3\ns = moved b 1/2 1/3\nt = joined r s"),
    ("r = met a b\ns = lesser r 3 1 1", "r = lesser a 3 1 1\ns = lesser b 3 1 1\nt = met r s"),
    ("r = lesser a 2 0 1", "r = lesser a 2 0 0\ns = moved r 0 1/2"),
    ("r = moved a 1 1\ns = moved r 1/2 1/2", "r = moved a 1 1\ns = moved r 1/2 0\nt = met r s"),
    ("r = moved a 1/2 0\ns = moved r -1/2 0", "r = zoomed a 2 0 0\ns = zoomed a 2 0 1\nt = lesser r 2 0 0\nu = lesser s 2 0 1\nv = joined t u"),
    ("x = turned a 1\nr = turned a 2", "r = turned a 2"),
    ("a = turned a 2\na = turned a 2", "b = turned a 0"),
    # What both make is empty but for sides that are cut off again.
    ("r = lesser a 2 0 0\ns = lesser a 4 3 3\nt = met r s", "r = moved a 1 0\ns = moved r 1/2 0"),
)
# Programs that differ, if only at few points.
PARTED = (
    ("r = joined a b", "r = met a b"),
    ("r = turned a 1", "r = turned a 3"),
    ("r = turned a 0", "r = turned a 4"),
    ("r = turned a 0", "r = turned a 7"),
    ("r = moved a 1/2 0\ns = moved r -1/2 0", "r = turned a 0"),
    ("r = moved a 1/2 0\ns = moved r -1/2 0", "r = moved a 5/12 0\ns = moved r -5/12 0"),
    ("r = moved a 1/12 0", "r = moved a 1/11 0"),
    ("r = lesser a 2 0 0", "r = lesser a 2 1 0"),
    ("r = zoomed a 3 1 1", "r = zoomed a 4 1 1"),
    ("r = turned a 4\ns = met r a", "r = turned a 0"),
    ("r = turned a 4\ns = joined r a", "r = turned a 0"),
    # At a corner alone: what is moved by 1 both ways has just a corner left.
    ("r = moved a 1 1\ns = joined r b", "r = turned a 0\nr = moved r 1 1\nr = moved r 1/2 0\ns = joined r b"),
    ("r = moved a 1 1", "r = moved a 1 1\ns = moved r 1/12 0"),
    # On a line alone: both squares have the seam in common.
    ("r = lesser a 2 0 0\ns = lesser a 2 1 0\nt = met r s", "r = lesser a 2 0 0\ns = lesser a 4 3 3\nt = met r s"),
    ("r = moved a 1 0", "r = moved a 1 0\ns = turned r 6"),
    # At one point alone: squares that meet in a corner.
    ("r = lesser a 2 0 0\ns = lesser b 2 1 1\nt = met r s", "r = lesser a 2 0 0\ns = lesser b 4 3 3\nt = met r s"),
    # In one half of the square alone: in the other one, quarter by quarter, they are the same.
    ("r = zoomed a 2 0 0\nr = lesser r 2 0 0\ns = zoomed a 2 0 1\ns = lesser s 2 0 1\nt = joined r s", "r = turned a 0"),
    ("r = zoomed a 2 1 0\nr = lesser r 2 1 0\ns = zoomed a 2 1 1\ns = lesser s 2 1 1\nt = joined r s", "r = turned a 0"),
    ("r = zoomed a 2 0 0\nr = lesser r 2 0 0\ns = zoomed a 2 1 0\ns = lesser s 2 1 0\nt = joined r s", "r = turned a 0"),
    ("r = zoomed a 2 0 1\nr = lesser r 2 0 1\ns = zoomed a 2 1 1\ns = lesser s 2 1 1\nt = joined r s", "r = turned a 0"),
    # In a strip alone, without its sides; in the last two of these not in its middle either.
    ("r = moved a 3/4 0\nr = moved r -3/4 0\ns = moved a -3/4 0\ns = moved s 3/4 0\nt = joined r s", "r = turned a 0"),
    ("r = moved a 0 3/4\nr = moved r 0 -3/4\ns = moved a 0 -3/4\ns = moved s 0 3/4\nt = joined r s", "r = turned a 0"),
    ("r = moved a 3/4 0\nr = moved r -3/4 0\ns = moved a -3/4 0\ns = moved s 3/4 0\nt = joined r s\nu = turned a 4\nu = met u a\nv = joined t u",
     "r = turned a 0"),
    ("r = moved a 0 1/2\nr = moved r 0 -1/2\ns = moved a 0 -1/4\ns = moved s 0 1/4\nt = met r s\nu = turned a 6\nu = met u t", "r = moved a 0 1/2\n"
     "r = moved r 0 -1/2\ns = moved a 0 -1/4\ns = moved s 0 1/4\nt = met r s"),
    ("r = lesser a 3 1 1\ns = lesser b 3 2 2\nt = met r s\nu = joined t a", "r = met a b\ns = joined r a"),
)


def texts_over(one, other):
    """Two programs with the inputs of both, ahead of whose lines stand such as are not needed."""
    names = sorted(set(Program(one).inputs) | set(Program(other).inputs))
    told = []
    for text in (one, other):
        lines = [f"zz = turned {name} 0" for name in names if name not in Program(text).inputs]
        told.append(Program("\n".join(lines + [text])))
    return told


class SameTest(unittest.TestCase):

    def check_parts(self, one, other):
        """Check what tells that two programs differ, and return its point."""
        told = same_program(one, other)
        self.assertEqual((type(told), len(told), told[0]), (tuple, 3, "parts"), (one.text, other.text))
        self.assertTrue(shows_parts(one, other, told), (one.text, other.text, told))
        self.assertTrue(shows_parts(other, one, told))
        _, lots, point = told
        self.assertNotEqual(point_made(one, lots, point), point_made(other, lots, point))
        return point

    def test_programs_with_the_same_result(self):
        for one, other in SAME:
            programs = texts_over(one, other)
            self.assertEqual(same_program(*programs), ("same",), (one, other))
            self.assertEqual(same_program(*programs[::-1]), ("same",))
            for point in likely_fractions(random.Random(330), 10):
                self.assertEqual(needs(programs[0].text, point), needs(programs[1].text, point), (one, other, point))

    def test_programs_that_differ(self):
        for one, other in PARTED:
            programs = texts_over(one, other)
            self.check_parts(*programs)
            self.check_parts(*programs[::-1])

    def test_where_they_differ_at_few_points(self):
        corner = self.check_parts(Program("r = moved a 1 1"), Program("r = moved a 1 1\ns = moved r 1/12 0"))
        self.assertEqual(corner, ((1, 1), (1, 1)))
        seam = self.check_parts(
            Program("r = lesser a 2 0 0\ns = lesser a 2 1 0\nt = met r s"), Program("r = lesser a 2 0 0\ns = lesser a 4 3 3\nt = met r s"),
        )
        self.assertEqual(seam[0], (1, 2))
        middle = self.check_parts(
            Program("r = lesser a 2 0 0\ns = lesser b 2 1 1\nt = met r s"), Program("r = lesser a 2 0 0\ns = lesser b 4 3 3\nt = met r s"),
        )
        self.assertEqual(middle, HALF)
        side = self.check_parts(Program("r = moved a 1 0"), Program("r = moved a 1 0\ns = turned r 6"))
        self.assertEqual(side[0], (1, 1))

    def test_some_programs(self):
        draw = random.Random(331)
        found = {"same": 0, "parts": 0}
        for words in (None, ("joined", "met", "turned"), ("joined", "met", "lesser", "zoomed", "turned"), ("met", "joined", "moved")):
            chosen = {} if words is None else {"words": words}
            for program in some_programs(draw, 60, 6, 2, **chosen):
                other = self.bent(draw, program)
                if other.inputs == program.inputs:
                    told = same_program(program, other)
                    found[told[0]] += 1
                    if told == ("same",):
                        for point in likely_fractions(draw, 12):
                            self.assertEqual(needs(program.text, point), needs(other.text, point), (program.text, other.text))
                    else:
                        self.check_parts(program, other)
        self.assertTrue(min(found.values()) > 20, found)

    def bent(self, draw, program):
        """A program with one line changed: names exchanged, or another number."""
        lines = program.text.split("\n")
        at = draw.randrange(len(lines))
        words = lines[at].split(" ")
        if words[2] in ("joined", "met"):
            words[3], words[4] = words[4], words[3]
        elif words[2] == "turned":
            words[4] = str(draw.randint(0, 7))
        elif words[2] == "moved":
            words[4] = some_fraction(draw)
        else:
            words[4:] = [str(draw.randrange(int(words[4]))) if place else words[4] for place in range(3)]
        lines[at] = " ".join(words)
        return Program("\n".join(lines))

    def test_the_same_by_needs_at(self):
        draw = random.Random(332)
        programs = some_programs(draw, 60, 4, 1)
        for one, other in zip(programs, programs[1:]):
            told = same_program(one, other)
            points = likely_fractions(draw, 12)
            if told == ("same",):
                for point in points:
                    self.assertEqual(needs_at(one, written(point)), needs_at(other, written(point)))
            else:
                self.assertNotEqual(needs_at(one, told[2]), needs_at(other, told[2]))

    def test_the_same_by_pictures(self):
        draw = random.Random(333)
        pictures = sample_pictures(2, 2, 2, 8)
        for one, other in SAME:
            programs = texts_over(one, other)
            chosen = tuple(draw.choice(pictures) for _ in programs[0].inputs)
            self.assertEqual(worked_out(programs[0], chosen), worked_out(programs[1], chosen), (one, other))

    def test_itself(self):
        draw = random.Random(334)
        for program in some_programs(draw, 40, 8, 4):
            self.assertEqual(same_program(program, Program(program.text)), ("same",))

    def test_other_inputs(self):
        one = Program("r = joined a b")
        for text in ("r = joined a c", "r = turned a 1", "r = turned b 1", "r = joined a b\ns = met c r", "r = joined aa b"):
            other = Program(text)
            for value in (None, ("same",), ("parts", ((), ()), HALF)):
                for call in (lambda: same_program(one, other), lambda: shows_parts(one, other, value)):
                    raised = error_of(call)
                    self.assertEqual((type(raised), raised.value), (OtherInputs, other.inputs))
            raised = error_of(same_program, other, one)
            self.assertEqual((type(raised), raised.value), (OtherInputs, ("a", "b")))

    def test_great_squares_and_small_ones(self):
        # All that eight lines can do to make squares small: the seams have great lows.
        lines = ["r = moved a 1/11 1/7"] + ["r = lesser r 4 1 2"] * 3 + ["r = moved r -1/12 1/5"] + ["r = zoomed r 3 1 1"] * 2
        one = Program("\n".join(lines + ["r = joined r a"]))
        other = Program("\n".join(lines + ["r = joined a r"]))
        self.assertEqual(same_program(one, other), ("same",))
        self.check_parts(one, Program("\n".join(lines + ["r = met r a"])))


class ShowsTest(unittest.TestCase):

    def test_what_shows_it(self):
        one, other = Program("r = joined a b"), Program("r = met a b")
        self.assertIs(shows_parts(one, other, ("parts", ((HALF,), ()), HALF)), True)
        self.assertIs(shows_parts(one, other, ("parts", ((HALF,), (HALF,)), HALF)), False)
        self.assertIs(shows_parts(one, other, ("parts", ((), ()), HALF)), False)
        self.assertIs(shows_parts(one, other, ("parts", ((((0, 1), (0, 1)), HALF), ()), HALF)), True)
        self.assertIs(shows_parts(one, one, ("parts", ((HALF,), ()), HALF)), False)

    def test_what_has_not_the_form(self):
        one, other = Program("r = joined a b"), Program("r = met a b")
        lots = ((HALF,), ())
        values = NOTHINGS + NUMBERS_OUT + (
            (), ("parts",), ("parts", lots), ("parts", lots, HALF, HALF), ["parts", lots, HALF], ("same", lots, HALF), (None, lots, HALF),
            (True, lots, HALF), (["parts"], lots, HALF), ("parts", list(lots), HALF), ("parts", lots, list(HALF)),
            ("parts", (lots[0],), HALF), ("parts", lots + ((),), HALF), ("parts", ((HALF, HALF), ()), HALF),
            ("parts", ([HALF], ()), HALF), ("parts", lots, (1, 2)), ("parts", lots, ((1, 2),)), ("parts", lots, ((2, 4), (1, 2))),
            ("parts", ((((2, 4), (1, 2)),), ()), HALF), ("parts", ((((1, 2), (1, 2), (1, 2)),), ()), HALF),
            ("parts", lots, ((1, 10 ** 60 + 1), (1, 2))), ("parts", lots, None), ("parts", None, HALF), ("parts", HALF, HALF),
            ("Parts", lots, HALF), ("parts ", lots, HALF), ("parts", lots, ((HUGE, HUGE), (1, 2))), ("parts", lots, ((True, 1), (1, 2))),
        )
        for value in values:
            self.assertIs(shows_parts(one, other, value), False, value)


class NeedlessTest(unittest.TestCase):

    def test_some_programs(self):
        for text, told in (
            ("r = joined a b", ()), ("r = turned b 1\ns = turned a 1", ("b",)), ("r = met a b\ns = joined r a", ("b",)),
            ("r = joined a b\ns = met r b\nt = met s c\nu = joined t b", ("a", "c")), ("r = moved a 1 0\ns = moved r 1/12 0", ("a",)),
            ("r = moved a 1 0\ns = moved r 0 1", ()), ("r = met b c\ns = moved r 1 1\nt = moved s 0 1/12\nu = joined t d", ("b", "c")),
            ("r = lesser a 2 0 0\ns = lesser b 4 3 3\nt = met r s", ("a", "b")), ("r = lesser a 2 0 0\ns = lesser b 2 1 1\nt = met r s", ()),
            ("r = lesser a 2 0 0\ns = zoomed r 2 1 1\nt = joined s b", ()), ("r = lesser a 3 0 0\ns = zoomed r 3 2 2\nt = joined s b", ("a",)),
            # a is met with itself mirrored: it is still needed, and b is so on the middle line alone.
            ("r = turned a 4\ns = met r a\nt = lesser b 2 0 0\nu = lesser b 2 1 0\nv = met t u\nw = joined s v", ()),
            ("a = turned b 1", ()), ("a = turned a 1\nb = turned b 1", ("a",)), ("r = turned a 1\nr = turned b 1\nr = joined r c", ("a",)),
        ):
            self.assertEqual(needless_inputs(Program(text)), told, text)

    def test_against_needs_at(self):
        draw = random.Random(335)
        needless = 0
        for program in some_programs(draw, 120, 7, 4):
            told = needless_inputs(program)
            needless += len(told)
            self.assertEqual(told, tuple(sorted(set(told) & set(program.inputs))))
            for point in likely_fractions(draw, 12):
                used = {name for pairs in needs(program.text, point) for name, _ in pairs}
                self.assertFalse(used & set(told), (program.text, point))
        self.assertGreater(needless, 20)

    def test_against_programs_in_which_an_input_is_exchanged(self):
        # An input is needless exactly if another one in its place makes no difference.
        draw = random.Random(336)
        compared = 0
        for program in some_programs(draw, 60, 5, 3):
            if len(program) < 7 and "zz" not in program.inputs and len(program.inputs) < 4:
                for name in program.inputs:
                    one, other = [Program(f"yy = turned {keep} 0\n{text}") for keep, text in (
                        ("zz", program.text), (name, self.exchanged(program, name, "zz")))]
                    if one.inputs == other.inputs:
                        same = same_program(one, other) == ("same",)
                        self.assertEqual(same, name in needless_inputs(program), (program.text, name))
                        compared += 1
        self.assertGreater(compared, 40)

    def exchanged(self, program, name, other):
        """The text in which the input of this name is called otherwise."""
        lines = []
        made = set()
        for line in program.text.split("\n"):
            words = line.split(" ")
            for place in range(3, 5):
                if place < len(words) and words[place] == name and name not in made:
                    words[place] = other
            made.add(words[0])
            lines.append(" ".join(words))
        return "\n".join(lines)

    def test_exchanging_a_needless_picture_changes_nothing(self):
        draw = random.Random(337)
        pictures = sample_pictures(2, 3, 2, 8)
        for text in ("r = met a b\ns = joined r a", "r = lesser a 3 0 0\ns = zoomed r 3 2 2\nt = joined s b", "x = turned b 1\nr = moved a 1/2 0"):
            program = Program(text)
            chosen = [draw.choice(pictures) for _ in program.inputs]
            told = worked_out(program, tuple(chosen))
            for name in needless_inputs(program):
                for picture in pictures:
                    chosen[program.inputs.index(name)] = picture
                    self.assertEqual(worked_out(program, tuple(chosen)), told)
