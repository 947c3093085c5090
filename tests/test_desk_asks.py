"""Section 16: what a desk is asked: entry, picture, hanging, program."""

import random
import unittest
from itertools import permutations

from selfdrawn.books import Book
from selfdrawn.desk import Desk
from selfdrawn.errors import NoLine, NoName, TooMany
from selfdrawn.pictures import Picture
from selfdrawn.programs import Program, worked_out
from tests.desks import check_raises, picture_by_program, some_deeds
from tests.slow_programs import some_step
from tests.test_deeds import POINT, full_desk, some_desk
from tests.values import NOTHINGS, NUMBERS_OUT


def names_in(desk, name):
    """The names in an entry."""
    entry = desk.entry(name)
    words = entry.split(" ")[1:] if isinstance(entry, str) else [word.split("/")[0] for word in entry]
    return [word for word in words if word in desk]


def below(desk, name):
    """A name and all that it hangs on."""
    found = {name}
    while True:
        more = found | {other for one in found for other in names_in(desk, one)}
        if more == found:
            return found
        found = more


def programs_told(desk, name):
    """The lines of the program of a line, by all sequences of them."""
    lines = sorted(line for line in below(desk, name) if line in desk.lines)
    found = []
    for told in permutations(lines):
        if all(told.index(other) < at for at, line in enumerate(told) for other in names_in(desk, line) if other in told):
            found.append(told)
    return [f"{line} = {desk.entry(line)}" for line in min(found)]


class EntryTest(unittest.TestCase):

    def test_kinds_and_lines(self):
        desk = some_desk()
        self.assertEqual(desk.entry("q"), ("p/2", "q", "#", "."))
        self.assertEqual(desk.entry(name="s"), "joined r q")

    def test_no_names(self):
        desk = some_desk()
        for value in NOTHINGS + NUMBERS_OUT + ("t", "P", 0, ("p",), "plane", "p ", "p/1"):
            for call in (desk.entry, desk.picture, desk.hanging):
                check_raises(self, desk, NoName, value, call, value)
        desk.back(1)
        check_raises(self, desk, NoName, "s", desk.entry, "s")


class PictureTest(unittest.TestCase):

    def test_kinds_by_the_book_of_all_kinds(self):
        desk = some_desk()
        book = Book("plane 2\nkind p\np .\n. .\nkind q\np/2 q\n# .")
        self.assertEqual(desk.picture("p"), Picture(book, "p"))
        self.assertEqual(desk.picture(name="q"), Picture(book, "q"))

    def test_some_desks(self):
        draw = random.Random(410)
        for base in (2, 3):
            for _ in range(6):
                desk = Desk(base)
                for kind in "kl":
                    words = [".", ".", kind, draw.choice(desk.kinds + (kind, "#"))] * (base * base)
                    desk.draw(kind, tuple(draw.sample(words, base * base)))
                while len(desk) < 5:
                    names = list(desk.kinds + desk.lines)
                    line = some_step(draw, names, names[-1], ("joined", "met", "turned", "turned", "lesser", "zoomed"))
                    desk.let("abc"[len(desk) - 2], line)
                for name in desk.kinds + desk.lines:
                    self.assertEqual(desk.picture(name), picture_by_program(desk, name), (desk.deeds, name))

    def test_lines_go_along_when_something_is_changed(self):
        desk = some_desk()
        for word in (".", "#", "p/1", "p"):
            desk.change("p", (1, 0), word)
            for name in ("p", "q", "r", "s"):
                self.assertEqual(desk.picture(name), picture_by_program(desk, name))
        before = desk.picture("s")
        desk.let("r", "turned p 0")
        self.assertNotEqual(desk.picture("s"), before)
        self.assertEqual(desk.picture("s"), picture_by_program(desk, "s"))
        desk.back(1)
        self.assertEqual(desk.picture("s"), before)

    def test_lines_named_twice(self):
        desk = Desk(2)
        desk.draw("p", POINT)
        desk.let("a", "turned p 1")
        for name, above in zip("bcdefghijk", "abcdefghij"):
            desk.let(name, f"joined {above} {above}")
        self.assertEqual(desk.picture("k"), desk.picture("a"))

    def test_an_asked_picture_changes_nothing(self):
        desk = some_desk()
        picture = desk.picture("p")
        picture.form = ()
        self.assertNotEqual(desk.picture("p").form, ())


class HangingTest(unittest.TestCase):

    def test_some_desks(self):
        draw = random.Random(411)
        for base in (2, 3):
            for _ in range(12):
                desk = some_deeds(draw, base, 25)
                names = desk.kinds + desk.lines
                for name in names:
                    told = tuple(sorted(other for other in names if name in below(desk, other)))
                    self.assertEqual(desk.hanging(name), told)

    def test_a_name_and_all_that_hang_on_it(self):
        desk = some_desk()
        self.assertEqual([desk.hanging(name) for name in ("p", "q", "r")], [("p", "q", "r", "s"), ("q", "s"), ("r", "s")])
        self.assertEqual(desk.hanging(name="s"), ("s",))


class ProgramTest(unittest.TestCase):

    def test_some_desks(self):
        draw = random.Random(412)
        most = 0
        for _ in range(40):
            desk = some_deeds(draw, 2, 30, ("a", "b", "c", "d", "e", "f"))
            for name in desk.lines:
                told = programs_told(desk, name)
                self.assertEqual(desk.program(name), "\n".join(told))
                self.assertEqual(Program(desk.program(name)).inputs, tuple(sorted(below(desk, name) & set(desk.kinds) & {
                    other for line in told for other in names_in(desk, line.split(" ")[0])})))
                most = max(most, len(told))
        self.assertGreater(most, 2)

    def test_the_least_sequence(self):
        desk = Desk(2)
        desk.draw("p", POINT)
        for name, line in (("z", "turned p 0"), ("a", "turned z 1"), ("b", "turned p 2"), ("y", "joined b a"), ("c", "met y z"), ("x", "turned p 1")):
            desk.let(name, line)
        told = "b = turned p 2\nz = turned p 0\na = turned z 1\ny = joined b a\nc = met y z"
        self.assertEqual(desk.program("c"), told)
        self.assertEqual(desk.program("x"), "x = turned p 1")
        self.assertEqual(desk.program(name="a"), "z = turned p 0\na = turned z 1")
        self.assertEqual(worked_out(Program(told), (desk.picture("p"),)), desk.picture("c"))

    def test_of_programs_with_like_names_the_least(self):
        # A line that is free later on, but has a lesser name, does not stand ahead of what it names.
        desk = Desk(3)
        desk.draw("p", ("p",) + (".",) * 8)
        for name, line in (("m", "turned p 1"), ("a", "turned m 1"), ("n", "turned p 2"), ("b", "turned n 1"), ("r", "joined b a")):
            desk.let(name, line)
        told = [line.split(" ")[0] for line in desk.program("r").split("\n")]
        self.assertEqual(told, ["m", "a", "n", "b", "r"])

    def test_more_than_eight_lines(self):
        desk = Desk(2)
        desk.draw("p", POINT)
        desk.let("a", "turned p 1")
        for name, above in zip("bcdefghi", "abcdefgh"):
            desk.let(name, f"turned {above} 1")
        self.assertEqual(len(Program(desk.program("h"))), 8)
        check_raises(self, desk, TooMany, 8, desk.program, "i")

    def test_more_than_four_kinds(self):
        desk = Desk(2)
        for name in "klmno":
            desk.draw(name, (".",) * 4)
        desk.let("a", "joined k l")
        desk.let("b", "joined m n")
        desk.let("c", "joined a b")
        desk.let("d", "joined c o")
        desk.let("e", "joined c n")
        self.assertEqual(Program(desk.program("e")).inputs, ("k", "l", "m", "n"))
        check_raises(self, desk, TooMany, 4, desk.program, "d")
        # Kinds that these kinds name do not count.
        desk.change("k", (0, 0), "o")
        self.assertEqual(Program(desk.program("e")).inputs, ("k", "l", "m", "n"))

    def test_too_many_lines_ahead_of_too_many_kinds(self):
        desk = Desk(2)
        for name in "kl":
            desk.draw(name, (".",) * 4)
        desk.let("a", "joined k l")
        for name, above in zip("bcdefghi", "abcdefgh"):
            desk.let(name, f"joined {above} a")
        check_raises(self, desk, TooMany, 8, desk.program, "i")
        # Five kinds and seven lines are all twelve entries: so there are never too many of both.
        desk = Desk(2)
        for name in "klmno":
            desk.draw(name, (".",) * 4)
        for name, line in zip("abcdefg", ("joined k l", "joined a m", "joined b n", "joined c o", "turned d 1", "turned e 1", "turned f 1")):
            desk.let(name, line)
        check_raises(self, desk, TooMany, 4, desk.program, "g")
        self.assertEqual(len(desk), 12)

    def test_no_lines(self):
        desk = some_desk()
        for value in NOTHINGS + NUMBERS_OUT + ("p", "q", "t", "plane", 0, ("r",), "r ", "turned p 1"):
            check_raises(self, desk, NoLine, value, desk.program, value)
        for name in ("ka", "kf"):
            desk = full_desk()
            check_raises(self, desk, NoLine, name, desk.program, name)
