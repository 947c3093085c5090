"""Section 16: the deeds of a desk, by its methods and by their texts."""

import random
import unittest
from itertools import product

from selfdrawn.desk import Desk
from selfdrawn.errors import (
    BadCell, BadDeed, BadLine, BadName, BadNumber, BadWord, BadWords, Full, Held, InUse, NoKind, NoName, Ring,
)
from tests.desks import check_desk, check_raises, held, some_deeds
from tests.helpers import HUGE
from tests.test_programs import GOOD, WRONG
from tests.values import NOTHINGS, NUMBERS_OUT, no_integers, no_tuples

NO_NAMES = tuple(value for value in NOTHINGS if value != "a") + NUMBERS_OUT + (
    "plane", "line", "kind", "A", "abcdefghi", "a b", "a1", "a/1", ".", "#", " a", "a ", 0, 1, ("a",), ["a"], "a\n",
)
POINT = ("p", ".", ".", ".")


def some_desk():
    """A desk with kinds p, q and lines r, s."""
    desk = Desk(2)
    desk.draw("p", POINT)
    desk.draw("q", ("p/2", "q", "#", "."))
    desk.let("r", "turned p 2")
    desk.let("s", "joined r q")
    return desk


def full_desk():
    """A desk with twelve entries, kinds ka to kf and lines la to lf."""
    desk = Desk(2)
    for sign in "abcdef":
        desk.draw("k" + sign, ("k" + sign, ".", ".", "."))
        desk.let("l" + sign, f"turned k{sign} 1")
    return desk


class DeskTest(unittest.TestCase):

    def test_a_new_desk(self):
        for base in (2, 3, 4):
            desk = Desk(base)
            self.assertEqual((desk.base, desk.kinds, desk.lines, desk.deeds, desk.place, desk.marks, len(desk)), (base, (), (), (), 0, (), 0))
            self.assertNotIn("a", desk)

    def test_bases(self):
        for value in no_integers() + NUMBERS_OUT + (0, 1, 5):
            with self.assertRaises(BadNumber) as caught:
                Desk(value)
            self.assertIs(caught.exception.value, value)

    def test_names_of_entries(self):
        desk = some_desk()
        for name in ("p", "q", "r", "s"):
            self.assertIs(name in desk, True)
        for value in NOTHINGS + NUMBERS_OUT + ("t", "P", "pq", ("p",), 0, POINT):
            self.assertIs(value in desk, False, value)


class DrawTest(unittest.TestCase):

    def test_a_kind(self):
        desk = Desk(2)
        self.assertIsNone(desk.draw("p", POINT))
        self.assertEqual((desk.kinds, desk.lines, desk.deeds, desk.place), (("p",), (), ("draw p p . . .",), 1))
        self.assertEqual(desk.entry("p"), POINT)
        self.assertIsNone(desk.draw(words=("#", "p/7", "b", "."), name="b"))
        self.assertEqual((desk.kinds, desk.deeds[-1]), (("b", "p"), "draw b # p/7 b ."))

    def test_bases(self):
        for base in (2, 3, 4):
            for many in range(base * base + 3):
                desk = Desk(base)
                words = ("a", "#", ".")[:many] + (".",) * (many - 3)
                if many == base * base:
                    desk.draw("a", words)
                    self.assertEqual(desk.entry("a"), words)
                else:
                    check_raises(self, desk, BadWords, words, desk.draw, "a", words)

    def test_drawn_anew(self):
        desk = some_desk()
        desk.draw("p", (".", ".", ".", "q/5"))
        self.assertEqual((desk.entry("p"), desk.kinds, len(desk), desk.place), ((".", ".", ".", "q/5"), ("p", "q"), 4, 5))
        check_desk(self, desk)

    def test_names(self):
        desk = some_desk()
        for value in NO_NAMES:
            check_raises(self, desk, BadName, value, desk.draw, value, POINT)
            check_raises(self, desk, BadName, value, desk.draw, value, None)
        check_raises(self, desk, Held, "r", desk.draw, "r", POINT)
        check_raises(self, desk, Held, "s", desk.draw, "s", None)
        check_raises(self, desk, Held, "s", desk.draw, "s", ("no", "no", "no", "no"))

    def test_words(self):
        desk = some_desk()
        for value in no_tuples() + (
            (), (".",), (".",) * 3, (".",) * 5, (".", ".", ".", None), (".", ".", ".", True), (".", ".", ".", ("p",)), (".", ".", ".", "p/0"),
            (".", ".", ".", "p/8"), (".", ".", ".", "p/"), (".", ".", ".", "/1"), (".", ".", ".", "p/1/1"), (".", ".", ".", "plane"),
            (".", ".", ".", "line/1"), (".", ".", ".", "kind"), (".", ".", ".", ""), (".", ".", ".", " "), (".", ".", ".", ". ."),
            (".", ".", ".", "P"), (".", ".", ".", "##"), (".", ".", ".", "p /1"), ("no", ".", ".", "p/01"), (HUGE, ".", ".", "."),
            (".", ".", ".", ".", "no"), [".", ".", ".", "."], ". . . .", (".", ".", ".", "abcdefghi"), (".", ".", ".", "#/1"), (".", ".", ".", "./1"),
        ):
            check_raises(self, desk, BadWords, value, desk.draw, "p", value)
            check_raises(self, desk, BadWords, value, desk.draw, "new", value)

    def test_names_in_words(self):
        desk = some_desk()
        for words, value in (
            ((".", "no", "more", "."), "no"), (("more/3", "no", "p", "."), "more"), (("r", ".", ".", "."), "r"), (("p", "new", "no/1", "r"), "no"),
            ((".", ".", ".", "s/7"), "s"), (("new/2", "q", "#", "newer"), "newer"),
        ):
            check_raises(self, desk, NoKind, value, desk.draw, "new", words)
        desk.draw("new", ("new/2", "q", "#", "new"))

    def test_twelve_entries(self):
        desk = full_desk()
        self.assertEqual(len(desk), 12)
        check_raises(self, desk, Full, 12, desk.draw, "new", (".",) * 4)
        check_raises(self, desk, NoKind, "no", desk.draw, "new", ("no", ".", ".", "."))
        check_raises(self, desk, BadWords, None, desk.draw, "new", None)
        desk.draw("ka", ("kb", ".", ".", "."))
        desk.remove("lf")
        desk.draw("new", (".",) * 4)
        check_raises(self, desk, Full, 12, desk.draw, "newer", (".",) * 4)


class ChangeTest(unittest.TestCase):

    def test_each_cell(self):
        for base in (2, 3, 4):
            for column, row in product(range(base), repeat=2):
                desk = Desk(base)
                desk.draw("a", (".",) * (base * base))
                self.assertIsNone(desk.change("a", (column, row), "a/3"))
                told = ["."] * (base * base)
                told[base * row + column] = "a/3"
                self.assertEqual(desk.entry("a"), tuple(told))
                self.assertEqual(desk.deeds[-1], f"change a {column} {row} a/3")

    def test_to_the_same_word(self):
        desk = some_desk()
        desk.change(word="p", cell=(0, 0), name="p")
        self.assertEqual((desk.entry("p"), desk.place, desk.deeds[-1]), (POINT, 5, "change p 0 0 p"))

    def test_names(self):
        desk = some_desk()
        for value in NO_NAMES + ("r", "s", "t", "new"):
            check_raises(self, desk, NoKind, value, desk.change, value, (0, 0), ".")
            check_raises(self, desk, NoKind, value, desk.change, value, None, None)

    def test_cells(self):
        desk = some_desk()
        for value in no_tuples() + ((), (0,), (0, 0, 0), (2, 0), (0, 2), (-1, 0), (0, -1), (True, 0), (0, False), (None, 0), ("0", 0), [0, 0]):
            check_raises(self, desk, BadCell, value, desk.change, "p", value, ".")
            check_raises(self, desk, BadCell, value, desk.change, "p", value, None)

    def test_words(self):
        desk = some_desk()
        for value in tuple(value for value in NOTHINGS if value not in ("a",)) + NUMBERS_OUT + (
            0, "p/0", "p/8", "p/", "/1", "plane", "kind/1", "", " ", "p q", "P", "##", "p/1/1", ("p",), "p ", "#/1",
        ):
            check_raises(self, desk, BadWord, value, desk.change, "p", (0, 0), value)
        for word, value in (("r", "r"), ("no", "no"), ("no/4", "no"), ("s/1", "s"), ("a", "a")):
            check_raises(self, desk, NoKind, value, desk.change, "p", (0, 0), word)
        for word in (".", "#", "p", "p/7", "q", "q/1"):
            desk.change("p", (1, 1), word)
            self.assertEqual(desk.entry("p")[3], word)


class LetTest(unittest.TestCase):

    def test_a_line(self):
        desk = some_desk()
        self.assertIsNone(desk.let("t", "moved s -1/2 1"))
        self.assertEqual((desk.lines, desk.entry("t"), desk.deeds[-1]), (("r", "s", "t"), "moved s -1/2 1", "let t moved s -1/2 1"))
        self.assertIsNone(desk.let(line="met p t", name="aa"))
        self.assertEqual((desk.lines, desk.deeds[-1]), (("aa", "r", "s", "t"), "let aa met p t"))

    def test_let_anew(self):
        desk = some_desk()
        desk.let("s", "turned q 1")
        desk.let("r", "met s q")
        self.assertEqual((desk.entry("r"), desk.entry("s"), desk.lines, desk.place), ("met s q", "turned q 1", ("r", "s"), 6))
        check_desk(self, desk)

    def test_names(self):
        desk = some_desk()
        for value in NO_NAMES:
            check_raises(self, desk, BadName, value, desk.let, value, "turned p 1")
            check_raises(self, desk, BadName, value, desk.let, value, None)
        check_raises(self, desk, Held, "p", desk.let, "p", "turned p 1")
        check_raises(self, desk, Held, "q", desk.let, "q", None)

    def test_lines(self):
        desk = some_desk()
        for value in NOTHINGS + NUMBERS_OUT + WRONG + (0, ("turned", "p", 1), "turned p 1\n", "turned p 1\nt = turned p 1", ["turned p 1"]):
            check_raises(self, desk, BadLine, value, desk.let, "t", value)
            check_raises(self, desk, BadLine, value, desk.let, "r", value)

    def test_every_form(self):
        for line in GOOD:
            desk = Desk(2)
            names = [word for word in line.split(" ")[1:3] if word.isalpha() and word not in ("plane", "line", "kind")]
            for name in names:
                desk.draw(name, (".",) * 4)
            if "plane" in line:
                check_raises(self, desk, NoName, "plane", desk.let, "new", line)
            else:
                desk.let("new", line)
                self.assertEqual(desk.entry("new"), line)

    def test_names_in_lines(self):
        desk = some_desk()
        for line, value in (("joined no more", "no"), ("joined p no", "no"), ("met no p", "no"), ("turned no 1", "no"), ("met t no", "no"),
                            ("zoomed kind 1 0 0", "kind"), ("moved no 0 0", "no"), ("lesser no 2 0 0", "no"), ("joined no t", "no")):
            check_raises(self, desk, NoName, value, desk.let, "t", line)

    def test_rings(self):
        desk = some_desk()
        check_raises(self, desk, Ring, ("t",), desk.let, "t", "turned t 1")
        check_raises(self, desk, Ring, ("t",), desk.let, "t", "joined p t")
        check_raises(self, desk, Ring, ("r", "s"), desk.let, "r", "turned s 1")
        check_raises(self, desk, Ring, ("s",), desk.let, "s", "joined r s")
        desk.let("t", "met s p")
        check_raises(self, desk, Ring, ("r", "t", "s"), desk.let, "r", "turned t 1")
        check_raises(self, desk, Ring, ("r", "s"), desk.let, "r", "joined t s")
        check_raises(self, desk, Ring, ("r",), desk.let, "r", "joined t r")
        check_raises(self, desk, Ring, ("s", "t"), desk.let, "s", "joined t r")

    def test_the_least_shortest_ring(self):
        desk = Desk(2)
        desk.draw("p", POINT)
        desk.let("a", "turned p 0")
        for name, line in (("d", "turned a 1"), ("c", "turned a 1"), ("e", "joined c d"), ("f", "joined d c"), ("b", "met f e"), ("z", "turned a 1")):
            desk.let(name, line)
        check_raises(self, desk, Ring, ("a", "b", "e", "c"), desk.let, "a", "turned b 1")
        check_raises(self, desk, Ring, ("a", "z"), desk.let, "a", "joined b z")
        check_raises(self, desk, Ring, ("a", "e", "c"), desk.let, "a", "joined f e")
        check_raises(self, desk, Ring, ("a", "f", "c"), desk.let, "a", "joined f f")
        check_raises(self, desk, Ring, ("a", "d"), desk.let, "a", "joined z d")
        check_raises(self, desk, Ring, ("d", "e"), desk.let, "d", "joined e f")
        check_raises(self, desk, Ring, ("d", "b", "e"), desk.let, "d", "met b p")

    def test_a_name_that_comes_late_can_be_least(self):
        desk = Desk(2)
        desk.draw("p", POINT)
        desk.let("a", "turned p 0")
        for name, line in (("y", "turned a 0"), ("b", "turned a 0"), ("m", "joined y p"), ("n", "joined b p"), ("c", "joined n m")):
            desk.let(name, line)
        check_raises(self, desk, Ring, ("a", "c", "m", "y"), desk.let, "a", "turned c 0")

    def test_kinds_may_hang_on_themselves(self):
        desk = Desk(2)
        desk.draw("p", (".",) * 4)
        desk.draw("q", ("p", ".", ".", "."))
        desk.change("p", (0, 0), "q")
        desk.let("r", "joined p q")
        self.assertEqual(desk.hanging("p"), ("p", "q", "r"))

    def test_twelve_entries(self):
        desk = full_desk()
        check_raises(self, desk, Full, 12, desk.let, "new", "turned ka 1")
        check_raises(self, desk, Ring, ("new",), desk.let, "new", "turned new 1")
        check_raises(self, desk, NoName, "no", desk.let, "new", "turned no 1")
        check_raises(self, desk, BadLine, "", desk.let, "new", "")
        desk.let("la", "met kb lf")
        desk.remove("la")
        desk.let("new", "turned ka 1")
        self.assertEqual(len(desk), 12)


class RemoveTest(unittest.TestCase):

    def test_entries(self):
        desk = some_desk()
        for name, left in (("s", ("p", "q", "r")), ("q", ("p", "r")), ("r", ("p",)), ("p", ())):
            self.assertIsNone(desk.remove(name))
            self.assertEqual(tuple(sorted(desk.kinds + desk.lines)), left)
            self.assertEqual(desk.deeds[-1], "remove " + name)
            check_raises(self, desk, NoName, name, desk.remove, name)
            check_desk(self, desk)

    def test_all_who_name_it(self):
        desk = some_desk()
        check_raises(self, desk, InUse, ("q", "r"), desk.remove, "p")
        check_raises(self, desk, InUse, ("s",), desk.remove, "q")
        check_raises(self, desk, InUse, ("s",), desk.remove, "r")
        desk.let("a", "joined p p")
        desk.let("z", "met a p")
        check_raises(self, desk, InUse, ("a", "q", "r", "z"), desk.remove, "p")
        # s hangs on p, but it does not name it.
        desk.let("r", "turned q 1")
        check_raises(self, desk, InUse, ("a", "q", "z"), desk.remove, "p")

    def test_a_kind_that_names_itself(self):
        desk = Desk(2)
        desk.draw("p", POINT)
        desk.remove("p")
        desk.draw("q", (".",) * 4)
        desk.let("p", "turned q 1")
        self.assertEqual((desk.kinds, desk.lines), (("q",), ("p",)))

    def test_what_is_not_there(self):
        desk = some_desk()
        for value in NOTHINGS + NUMBERS_OUT + ("t", "P", 0, ("p",), "plane", "p "):
            check_raises(self, desk, NoName, value, desk.remove, value)


class TextsTest(unittest.TestCase):

    def test_deeds_by_their_texts(self):
        draw = random.Random(400)
        for base in (2, 3, 4):
            for _ in range(6):
                desk = some_deeds(draw, base, 30)
                check_desk(self, desk)
                again = Desk(base)
                for text in desk.deeds:
                    self.assertIsNone(again.deed(text))
                    words = text.split(" ")
                    self.assertEqual(again.deeds[-1], text)
                    self.by_method(again.copy(), words)
                self.assertEqual(again, desk)

    def by_method(self, desk, words):
        """Check that a deed done by its method is the same as by its text."""
        told = held(desk)
        desk.back(1)
        word, name = words[0], words[1]
        if word == "draw":
            desk.draw(name, tuple(words[2:]))
        elif word == "change":
            desk.change(name, (int(words[2]), int(words[3])), words[4])
        elif word == "let":
            desk.let(name, " ".join(words[2:]))
        else:
            desk.remove(name)
        self.assertEqual(held(desk), told)

    def test_what_is_no_deed(self):
        desk = some_desk()
        for value in NOTHINGS + NUMBERS_OUT + (
            0, "draw", "draw p", "draw p . . .", "draw p . . . . .", "draw p  . . .", "draw  p . . . .", " draw p . . . .", "draw p . . . . ",
            "Draw p . . . .", "draw p . . . .\n", "draw p . .\n. .", "change p 0 0", "change p 0 0 . .", "change p 0 .", "change p a 0 .",
            "change p 0 b .", "change p 00 0 .", "change p 0 +1 .", "change p -0 0 .", "change p 1234567890 0 .", "change p 0.0 0 .",
            "change p 0 -1234567890 .", "change p (0, 0) .", "change", "change p", "let", "let r", "let r ", "let  r turned p 1", "let r  turned",
            "let r turned p 1 ", "let r turned p 1\n", "remove", "remove p q", "remove ", "remove  p", "remove p ", " remove p", "delete p", "mark a", "place 1",
            "r = turned p 1", "turned p 1", "\n", "remove\tp", "remove p\n", "let\nr turned p 1", ("remove", "s"), ["remove s"],
        ):
            check_raises(self, desk, BadDeed, value, desk.deed, value)

    def test_what_deeds_raise(self):
        desk = some_desk()
        for text, error, value in (
            ("draw P . . . .", BadName, "P"), ("draw plane . . . .", BadName, "plane"), ("draw r . . . .", Held, "r"),
            ("draw p . . . p/8", BadWords, (".", ".", ".", "p/8")), ("draw p . . . ??", BadWords, (".", ".", ".", "??")),
            ("draw new . no r .", NoKind, "no"), ("draw 1 2 3 4 5", BadName, "1"), ("change r 0 0 .", NoKind, "r"), ("change ? 9 9 ?", NoKind, "?"),
            ("change p 2 0 .", BadCell, (2, 0)), ("change p 0 -1 .", BadCell, (0, -1)), ("change p -123456789 123456789 ?", BadCell, (-123456789, 123456789)),
            ("change p 1 1 ?", BadWord, "?"), ("change p 1 1 p/0", BadWord, "p/0"), ("change p 1 1 no/1", NoKind, "no"),
            ("let P turned p 1", BadName, "P"), ("let p turned p 1", Held, "p"), ("let t turned", BadLine, "turned"),
            ("let t turned p 8", BadLine, "turned p 8"), ("let t a b c d e f", BadLine, "a b c d e f"), ("let t joined p no", NoName, "no"),
            ("let r turned s 1", Ring, ("r", "s")), ("let t turned t 1", Ring, ("t",)), ("remove no", NoName, "no"), ("remove ?", NoName, "?"),
            ("let ~ !", BadName, "~"), ("remove !~", NoName, "!~"),
            ("remove p", InUse, ("q", "r")),
        ):
            check_raises(self, desk, error, value, desk.deed, text)
        check_raises(self, full_desk(), Full, 12, Desk.deed, full_desk(), "let new turned ka 1")
        check_raises(self, full_desk(), Full, 12, Desk.deed, full_desk(), "draw new . . . .")

    def test_how_many_words_a_block_has(self):
        for base in (2, 3, 4):
            desk = Desk(base)
            for many in range(1, 20):
                text = "draw a" + " #" * many
                if many == base * base:
                    desk.deed(text)
                    self.assertEqual(desk.entry("a"), ("#",) * many)
                else:
                    check_raises(self, desk, BadDeed, text, desk.deed, text)
