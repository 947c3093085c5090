"""Section 15: worked_out."""

import random
import unittest

from selfdrawn.books import Book
from selfdrawn.errors import BadPictures, BadSides, Unlike
from selfdrawn.making import joined_pictures, met_pictures, turned_picture
from selfdrawn.moves import moved_picture
from selfdrawn.pictures import Picture, empty_picture, whole_picture
from selfdrawn.programs import Program, worked_out
from selfdrawn.scaling import lesser_picture, zoomed_picture
from tests.helpers import HUGE, check_refused, error_of
from tests.samples import sample_pictures
from tests.slow_programs import some_text
from tests.values import LINE, PLANE, no_tuples

HOOK = Picture(Book("plane 2\nkind a\n. a/1\n# ."), "a")


def by_hand(text, pictures):
    """What the functions of sections 8 and 9 make, line by line."""
    held = dict(pictures)
    told = None
    for line in text.split("\n"):
        name, _, word, *words = line.split(" ")
        one = held[words[0]]
        numbers = words[1:]
        if word in ("joined", "met"):
            told = {"joined": joined_pictures, "met": met_pictures}[word](one, held[words[1]])
        elif word == "turned":
            told = turned_picture(one, int(numbers[0]))
        elif word == "moved":
            by = tuple(tuple(map(int, (number if "/" in number else number + "/1").split("/"))) for number in numbers)
            told = moved_picture(one, by)
        else:
            many, column, row = map(int, numbers)
            told = {"lesser": lesser_picture, "zoomed": zoomed_picture}[word](one, many, (column, row))
        held[name] = told
    return told


class WorkedOutTest(unittest.TestCase):

    def test_each_word(self):
        for right in ("joined a b", "joined b a", "met a b", "met b b", "turned a 3", "turned b 6", "moved a 1/3 -1/2", "moved a 0 1",
                      "lesser a 3 1 2", "lesser b 1 0 0", "zoomed a 2 1 0", "zoomed b 3 2 0"):
            program = Program("x = joined a b\nr = " + right)
            told = worked_out(program, (PLANE, HOOK))
            self.assertEqual(told, by_hand("r = " + right, {"a": PLANE, "b": HOOK}), right)
            self.assertIsInstance(told, Picture)

    def test_line_by_line(self):
        draw = random.Random(310)
        for base in (2, 3, 4):
            pictures = sample_pictures(2, base, 2, 8)
            done = 0
            while done < 12:
                text = some_text(draw, draw.randint(1, 4), 3)
                program = Program(text)
                chosen = tuple(draw.choice(pictures) for _ in program.inputs)
                told = by_hand(text, dict(zip(program.inputs, chosen)))
                if len(told) <= 200:
                    self.assertEqual(worked_out(program, chosen), told)
                    done += 1

    def test_inputs_in_their_sequence(self):
        corner, other = [Picture(Book(f"plane 2\nkind a\n{rows}"), "a") for rows in ("a .\n. .", ". a\n. .")]
        program = Program("r = turned b 0\ns = turned a 0")
        self.assertEqual(worked_out(program, (corner, other)), corner)
        program = Program("s = turned a 0\nr = turned b 0")
        self.assertEqual(worked_out(program, (corner, other)), other)

    def test_names_made_anew(self):
        program = Program("a = turned a 1\nb = joined a a\na = turned a 1\nr = met b a")
        told = met_pictures(turned_picture(HOOK, 1), turned_picture(HOOK, 2))
        self.assertEqual(worked_out(program, (HOOK,)), told)
        self.assertEqual(worked_out(Program("a = turned a 2\na = turned a 2"), (HOOK,)), HOOK)

    def test_empty_and_whole_pictures(self):
        for base in (2, 3, 4):
            blank, whole = empty_picture(2, base), whole_picture(2, base)
            program = Program("r = moved a 1/3 0\ns = met r b\nt = joined s a")
            self.assertEqual(worked_out(program, (blank, whole)), blank)
            self.assertEqual(worked_out(program, (whole, blank)), whole)

    def test_what_is_no_tuple_of_so_many_pictures(self):
        one, two = Program("r = turned a 1"), Program("r = joined a b")
        for value in no_tuples() + ((), (PLANE,), (PLANE, PLANE, PLANE), (PLANE, None), (None, PLANE), (LINE, None), (True, False),
                                    (PLANE, PLANE.form), (HUGE, PLANE), [PLANE, PLANE], {0: PLANE, 1: PLANE}, (PLANE, (PLANE,))):
            check_refused(self, BadPictures, value, worked_out, two, value)
        for value in ((), (PLANE, PLANE), (LINE, LINE), PLANE, [PLANE], (None,), ("a",), LINE):
            check_refused(self, BadPictures, value, worked_out, one, value)

    def test_lines_ahead_of_unlike_pictures(self):
        three = Program("r = joined a b\ns = met r c")
        other, far = whole_picture(2, 3), whole_picture(2, 4)
        for pictures, error, value in (
            ((LINE, PLANE, PLANE), BadSides, 1), ((PLANE, PLANE, LINE), BadSides, 1), ((PLANE, other, LINE), BadSides, 1),
            ((LINE, LINE, LINE), BadSides, 1), ((PLANE, other, far), Unlike, (2, 3)), ((PLANE, PLANE, far), Unlike, (2, 4)),
            ((other, other, PLANE), Unlike, (2, 2)), ((far, other, PLANE), Unlike, (2, 3)), ((PLANE, None, LINE), BadPictures, None),
        ):
            raised = error_of(worked_out, three, pictures)
            self.assertIs(type(raised), error)
            self.assertEqual(raised.value, pictures if error is BadPictures else value)

    def test_inputs_that_are_not_needed_have_to_be_alike_too(self):
        program = Program("x = turned b 1\nr = turned a 1")
        self.assertEqual(worked_out(program, (HOOK, PLANE)), turned_picture(HOOK, 1))
        raised = error_of(worked_out, program, (HOOK, whole_picture(2, 3)))
        self.assertEqual((type(raised), raised.value), (Unlike, (2, 3)))
