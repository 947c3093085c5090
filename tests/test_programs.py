"""Section 15: texts of programs."""

import random
import unittest
from fractions import Fraction

from selfdrawn.errors import BadProgram
from selfdrawn.programs import Program
from tests.helpers import error_of
from tests.slow_programs import some_text
from tests.values import NOTHINGS, NUMBERS_OUT

# Each of these right sides can stand.
GOOD = (
    "joined a b", "joined a a", "met a b", "met joined met", "joined plane kind", "turned a 0", "turned a 7", "moved a 0 0",
    "moved a 1 -1", "moved a 1/2 -1/2", "moved a 11/12 -11/12", "moved a -1 1/12", "moved a 5/7 -10/11", "lesser a 1 0 0",
    "lesser a 4 3 3", "lesser a 4 0 3", "lesser a 2 1 0", "zoomed a 1 0 0", "zoomed a 4 3 3", "zoomed a 3 2 1",
    "joined abcdefgh a", "met zzzzzzzz aaaaaaaa", "turned turned 1",
)
# None of these can.
WRONG = (
    "", " ", "a", "joined", "joined a", "joined a b c", "joined  a b", "joined a  b", "joined a b ", " joined a b", "Joined a b",
    "join a b", "joined A b", "joined a b1", "joined a-b c", "joined abcdefghi a", "met a abcdefghi", "met a ", "met a 1", "met a .",
    "turned a", "turned a 8", "turned a -1", "turned a 07", "turned a +1", "turned a 1 ", "turned a 1 1", "turned a b", "turned a 1/1",
    "turned a 1.0", "turned 1 a", "turned a 0x1", "turned a -0", "turned a 00", "turned a 1_0", "turned a", "turned 3", "turned  3",
    "moved a 0", "moved a 0 0 0", "moved a 2 0", "moved a 0 2", "moved a -2 0", "moved a 3/2 0", "moved a 0 -3/2", "moved a 1/13 0",
    "moved a 0 12/13", "moved a 2/4 0", "moved a 0/1 0", "moved a 1/1 0", "moved a -1/1 0", "moved a 0 -0", "moved a 0/5 0",
    "moved a 1/-2 0", "moved a -1/-2 0", "moved a 1/02 0", "moved a 01/2 0", "moved a 1/2/3 0", "moved a /2 0", "moved a 1/ 0",
    "moved a / 0", "moved a 1/0 0", "moved a 0/0 0", "moved a .5 0", "moved a +1 0", "moved a 1 /2", "moved a b 0", "moved a -0/2 0",
    "moved a 1000000000/3 0", "moved a 12/24 0", "moved a - 0", "moved a -- 0", "moved a --1 0",
    "lesser a 0 0 0", "lesser a 5 0 0", "lesser a 2 2 0", "lesser a 2 0 2", "lesser a 2 -1 0", "lesser a 1 1 0", "lesser a 2 0",
    "lesser a 2 0 0 0", "lesser a 2 0 0 ", "lesser a -2 0 0", "lesser a 02 0 0", "lesser a 2 00 0", "lesser a b 0 0", "lesser a 2 b 0",
    "lesser a", "lesser a 4 4 0", "lesser a 3 0 3", "lesser a 2/1 0 0", "lesser a 2 -0 0", "lesser a 1000000000 0 0",
    "zoomed a 0 0 0", "zoomed a 5 0 0", "zoomed a 2 2 0", "zoomed a 2 0 2", "zoomed a 2 -1 0", "zoomed a 2 0", "zoomed a 2 0 0 0",
    "zoomed a 3 3 3", "zoomed a 3 1", "zoomed 3 1 1", "crossed a b", "parts a", "other a", "a = joined a b", "= joined a b",
    "joined a\tb", "joined,a,b", "joined a b;", "plane 2", "kind a",
)


class TextTest(unittest.TestCase):

    def check_wrong(self, text, number):
        raised = error_of(Program, text)
        self.assertEqual((type(raised), raised and raised.value), (BadProgram, number), text)

    def test_each_word(self):
        for right in GOOD:
            for name in ("a", "r", "joined", "abcdefgh", "plane"):
                program = Program(f"{name} = {right}")
                self.assertEqual((len(program), program.steps[0][0], program.steps[0][1]), (1, name, right.split(" ")[0]))
        for right in WRONG:
            self.check_wrong(f"r = {right}", 1)
            self.check_wrong(f"r = joined a b\ns = met r a\nt = {right}\nu", 3)

    def test_steps(self):
        text = "c = joined a b\nd = met c a\ne = turned d 7\nf = moved e -1/2 1\ng = moved f 0 -11/12\nh = lesser g 4 3 0\ni = zoomed h 1 0 0"
        told = (
            ("c", "joined", "a", "b"), ("d", "met", "c", "a"), ("e", "turned", "d", 7), ("f", "moved", "e", (-1, 2), (1, 1)),
            ("g", "moved", "f", (0, 1), (-11, 12)), ("h", "lesser", "g", 4, 3, 0), ("i", "zoomed", "h", 1, 0, 0),
        )
        program = Program(text)
        self.assertEqual((program.text, program.steps, program.inputs, len(program)), (text, told, ("a", "b"), 7))
        self.assertEqual([type(part) for part in program.steps[5]], [str, str, str, int, int, int])

    def test_left_sides(self):
        for name in ("", "A", "a1", "abcdefghi", "a b", " a", "a ", ".", "#", "-", "a/1", "a="):
            self.check_wrong(f"{name} = joined a b", 1)
        for line in ("r= joined a b", "r =joined a b", "r joined a b", "r == joined a b", "r  = joined a b", "r =  joined a b",
                     "joined a b", "= joined a b", " = joined a b", "r = joined a b = c", "r = s = joined a b", "r =", "r = ", "=", "r"):
            self.check_wrong(line, 1)
            self.check_wrong(f"{line}\nr = joined a b", 1)
            self.check_wrong(f"r = joined a b\n{line}", 2)

    def test_empty_lines_and_line_feeds_at_the_end(self):
        self.check_wrong("", 1)
        self.check_wrong("\n", 1)
        self.check_wrong("r = joined a b\n", 2)
        self.check_wrong("\nr = joined a b", 1)
        self.check_wrong("r = joined a b\n\ns = met a r", 2)
        self.check_wrong("r = joined a b \n", 1)

    def test_eight_lines_and_a_ninth(self):
        lines = [f"{chr(98 + at)} = turned {chr(97 + at)} 1" for at in range(9)]
        self.assertEqual(len(Program("\n".join(lines[:8]))), 8)
        self.check_wrong("\n".join(lines), 9)
        self.check_wrong("\n".join(lines[:8] + [""]), 9)
        self.check_wrong("\n".join(lines[:8] + ["", "x"]), 9)
        self.check_wrong("\n".join(lines[:7] + ["x"] + lines), 8)

    def test_four_inputs_and_a_fifth(self):
        self.assertEqual(Program("r = joined a b\ns = met d c").inputs, ("a", "b", "c", "d"))
        self.assertEqual(Program("r = joined d b\ns = met a c\nt = turned r 0\nr = joined a s").inputs, ("a", "b", "c", "d"))
        self.check_wrong("r = joined a b\ns = met c d\nt = turned e 0", 3)
        self.check_wrong("r = joined a b\ns = turned c 0\nt = met d e\nu = met f g", 3)
        self.check_wrong("r = joined a b\ns = met c d\nt = met r e\nx", 3)
        self.check_wrong("r = joined a b\ns = met c d\nt = met s r\nx", 4)

    def test_inputs_ascend(self):
        self.assertEqual(Program("r = joined zb za\ns = met aa r").inputs, ("aa", "za", "zb"))
        self.assertEqual(Program("r = joined b b").inputs, ("b",))

    def test_names_made_anew(self):
        self.assertEqual(Program("a = turned a 1").inputs, ("a",))
        self.assertEqual(Program("a = turned a 1\na = joined a b\nb = met a b").inputs, ("a", "b"))
        self.assertEqual(Program("b = turned a 1\na = turned b 1\nb = joined a b").inputs, ("a",))
        self.assertEqual(Program("r = turned r 1\nr = turned r 1\nr = met r s").inputs, ("r", "s"))
        # A line does not stand ahead of itself.
        self.assertEqual(Program("r = joined r s\ns = met s r").inputs, ("r", "s"))

    def test_lines_on_which_the_result_does_not_depend(self):
        program = Program("r = joined c d\ns = turned a 1")
        self.assertEqual((program.inputs, len(program)), (("a", "c", "d"), 2))

    def test_fractions(self):
        for low in range(1, 15):
            for top in range(-low - 1, low + 2):
                number = Fraction(top, low)
                told = f"{top}/{low}"
                text = f"r = moved a {told} {told}"
                if low > 12 or abs(number) > 1 or told != str(number):
                    self.check_wrong(text, 1)
                else:
                    self.assertEqual(Program(text).steps[0][3:], ((top, low),) * 2)
        for top in (-1, 0, 1):
            self.assertEqual(Program(f"r = moved a {top} {top}").steps[0][3:], ((top, 1),) * 2)

    def test_numbers_at_their_bounds_and_beyond(self):
        for word in ("lesser", "zoomed"):
            for many in range(-1, 6):
                for column in range(-1, 6):
                    for row in range(-1, 6):
                        text = f"r = {word} a {many} {column} {row}"
                        if 1 <= many <= 4 and 0 <= column < many and 0 <= row < many:
                            self.assertEqual(Program(text).steps, (("r", word, "a", many, column, row),))
                        else:
                            self.check_wrong(text, 1)
        for motion in range(-2, 10):
            if 0 <= motion <= 7:
                self.assertEqual(Program(f"r = turned a {motion}").steps, (("r", "turned", "a", motion),))
            else:
                self.check_wrong(f"r = turned a {motion}", 1)

    def test_some_texts(self):
        draw = random.Random(300)
        for _ in range(100):
            text = some_text(draw, draw.randint(1, 8), 4)
            program = Program(text)
            self.assertEqual(program.text, text)
            self.assertEqual(len(program), text.count("\n") + 1)
            self.assertEqual([step[0] for step in program.steps], [line.split(" ")[0] for line in text.split("\n")])

    def test_equal_programs(self):
        text = "r = joined a b"
        self.assertEqual(Program(text), Program(text))
        self.assertNotEqual(Program(text), Program("r = joined b a"))
        self.assertNotEqual(Program(text), Program("s = joined a b"))
        for value in NOTHINGS + (text,):
            self.assertFalse(Program(text) == value)
            self.assertTrue(Program(text) != value)

    def test_no_string(self):
        for value in NOTHINGS + NUMBERS_OUT + (0, 1, ("r = joined a b",), ["r = joined a b"], Program("r = joined a b")):
            if not isinstance(value, str):
                self.check_wrong(value, 0)
            else:
                self.check_wrong(value, 1)

    def test_long_texts(self):
        self.check_wrong("r = joined a b\n" * 1800, 9)
        self.check_wrong("r" * 29000, 1)
        self.check_wrong("r = moved a " + "1" * 20000 + " 0", 1)
