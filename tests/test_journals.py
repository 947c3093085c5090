"""Section 16: journal and read_journal."""

import random
import unittest

from selfdrawn.desk import Desk
from selfdrawn.errors import BadJournal
from selfdrawn.journals import journal, read_journal
from tests.desks import check_desk, held, some_deeds
from tests.helpers import error_of
from tests.test_deeds import some_desk
from tests.values import NOTHINGS, NUMBERS_OUT

TEXT = "desk 2\ndraw p p . . .\nlet q turned p 2\nlet r joined p q\nplace 2\nmark early\ndraw p p . . .\nmark late\nmark mid\ndraw x # # # #\nremove x"


def some_journal(draw, base):
    """A desk with marks and, mostly, with a place in the middle."""
    desk = some_deeds(draw, base, draw.randint(0, 12))
    for name in draw.sample(("a", "plane", "zz", "mid"), draw.randint(0, 3)):
        desk.back(draw.randint(0, desk.place))
        desk.mark(name)
        desk.on(draw.randint(0, len(desk.deeds) - desk.place))
    return desk


class JournalTest(unittest.TestCase):

    def test_there_and_back(self):
        draw = random.Random(430)
        for base in (2, 3, 4):
            for _ in range(12):
                desk = some_journal(draw, base)
                text = journal(desk)
                again = read_journal(text)
                self.assertIsInstance(again, Desk)
                self.assertEqual((held(again), journal(again), again == desk), (held(desk), text, True))
                check_desk(self, again)
                if desk.place < len(desk.deeds):
                    again.on(1)
                    desk.on(1)
                    self.assertEqual(held(again), held(desk))

    def test_its_lines(self):
        desk = some_desk()
        desk.mark("z")
        desk.back(3)
        desk.mark("early")
        lines = ["desk 2", *desk.deeds, "place 1", "mark early", desk.deeds[0], "mark z", *desk.deeds]
        self.assertEqual(journal(desk), "\n".join(lines))
        self.assertEqual(journal(Desk(4)), "desk 4\nplace 0")
        self.assertEqual(journal(desk=read_journal(text="desk 3\nplace 0\nmark a")), "desk 3\nplace 0\nmark a")

    def test_a_journal_that_is_read(self):
        desk = read_journal(TEXT)
        self.assertEqual((desk.base, desk.place, desk.marks, desk.lines, len(desk.deeds)), (2, 2, ("early", "late", "mid"), ("q",), 3))
        self.assertEqual(journal(desk), TEXT)
        desk.on(1)
        self.assertEqual(desk.lines, ("q", "r"))
        desk.to("mid")
        self.assertEqual((len(desk), desk.place), (0, 2))
        desk.back(1)
        self.assertEqual(desk.entry("x"), ("#",) * 4)
        desk.to("late")
        self.assertEqual((desk.deeds, desk.place), ((), 0))

    def test_the_place_does_not_matter_for_the_deeds(self):
        desk = read_journal("desk 2\ndraw p p . . .\nremove p\nplace 0")
        self.assertEqual((len(desk), desk.place, len(desk.deeds)), (0, 0, 2))
        desk.on(1)
        self.assertEqual(desk.kinds, ("p",))

    def test_what_was_read_goes_its_own_way(self):
        one, other = read_journal(TEXT), read_journal(TEXT)
        one.remove("q")
        one.mark("new")
        self.assertEqual(journal(other), TEXT)


class BadJournalTest(unittest.TestCase):

    def check_bad(self, text, number):
        raised = error_of(read_journal, text)
        self.assertEqual((type(raised), raised and raised.value), (BadJournal, number), text)

    def test_no_strings(self):
        for value in NOTHINGS + NUMBERS_OUT + (0, Desk(2), TEXT.split("\n"), (TEXT,)):
            self.check_bad(value, 0 if not isinstance(value, str) else 1)

    def test_the_first_line(self):
        for line in ("", "desk", "desk ", "desk 1", "desk 5", "desk 02", "desk  2", "desk 2 ", " desk 2", "Desk 2", "plane 2", "desk two", "desk 2 2", "place 0"):
            self.check_bad(line, 1)
            self.check_bad(line + "\nplace 0", 1)
        for base in (2, 3, 4):
            self.assertEqual(read_journal(f"desk {base}\nplace 0"), Desk(base))

    def test_too_few_lines(self):
        lines = TEXT.split("\n")
        for many in range(1, 5):
            self.check_bad("\n".join(lines[:many]), many + 1)
        for many in range(5, len(lines) + 1):
            self.assertEqual(journal(read_journal("\n".join(lines[:many]))), "\n".join(lines[:many]))
        self.check_bad("desk 2", 2)

    def test_line_feeds_at_the_end(self):
        self.check_bad(TEXT + "\n", 12)
        self.check_bad("desk 2\n", 2)
        self.check_bad("desk 2\nplace 0\n", 3)
        self.check_bad("desk 2\nplace 0\nmark a\n", 4)
        self.check_bad("\n" + TEXT, 1)

    def test_each_line_bent(self):
        lines = TEXT.split("\n")
        for at, line in enumerate(lines):
            for bent in (line + " ", " " + line, line.upper(), line.replace(" ", "  ", 1), "", "x", line + "\tx", "desk 2", line + " x"):
                if bent != line:
                    self.check_bad("\n".join(lines[:at] + [bent] + lines[at + 1:]), at + 1)

    def test_each_line_left_out(self):
        lines = TEXT.split("\n")
        # What is missing is seen at the first line that needs it.
        for at, number in ((0, 1), (1, 2), (2, 3), (4, 5), (5, 6), (9, 10)):
            self.check_bad("\n".join(lines[:at] + lines[at + 1:]), number)
        for at in (3, 6, 7, 8, 10):
            text = "\n".join(lines[:at] + lines[at + 1:])
            self.assertEqual(journal(read_journal(text)), text)

    def test_each_line_doubled(self):
        lines = TEXT.split("\n")
        for at, number in ((0, 2), (4, 6), (5, 7), (7, 9), (8, 10), (10, 12)):
            self.check_bad("\n".join(lines[:at + 1] + lines[at:]), number)
        for at in (1, 2, 3, 6, 9):
            self.assertIsNone(error_of(read_journal, "\n".join(lines[:at + 1] + lines[at:])))

    def test_places(self):
        deeds = "desk 2\ndraw p p . . .\nremove p\n"
        for place in ("0", "1", "2"):
            self.assertEqual(read_journal(deeds + "place " + place).place, int(place))
        for place in ("3", "-1", "00", "01", "+1", "1 ", " 1", "", "a", "1/1", "1.0", "-0", "1000000000", "9" * 300, "1\nplace 1"):
            self.check_bad(deeds + "place " + place, 5 if place == "1\nplace 1" else 4)
        self.check_bad(deeds + "place", 4)
        self.check_bad("desk 2\nplace 1", 2)
        self.check_bad("desk 2\nplace 1\ndraw p p . . .", 2)
        self.check_bad("desk 2\nplace 0\ndraw p p . . .", 3)

    def test_marks(self):
        head = "desk 2\nplace 0\n"
        for name in ("plane", "line", "kind", "a", "abcdefgh"):
            self.assertEqual(read_journal(head + "mark " + name).marks, (name,))
        for line in ("mark", "mark ", "mark A", "mark abcdefghi", "mark a b", "mark a1", "Mark a", "mark  a", "mark a ", "place 0", "a"):
            self.check_bad(head + line, 3)
        for names, number in ((("b", "a"), 4), (("a", "a"), 4), (("a", "b", "aa"), 5), (("a", "aa", "b", "b"), 6), (("plane", "line"), 4)):
            self.check_bad(head + "\n".join("mark " + name for name in names), number)
        self.assertEqual(read_journal(head + "mark a\nmark aa\nmark ab\nmark b").marks, ("a", "aa", "ab", "b"))

    def test_deeds_that_raise(self):
        for deeds, number in (
            (["draw plane . . . ."], 2), (["draw p q . . ."], 2), (["draw p . . . p/8"], 2), (["draw p . . ."], 2), (["change p 0 0 ."], 2),
            (["draw p . . . .", "change p 2 0 ."], 3), (["draw p . . . .", "change p 0 0 ?"], 3), (["draw p . . . .", "change p 0 0 q"], 3),
            (["draw p . . . .", "let p turned p 1"], 3), (["let r turned r 1"], 2), (["draw p . . . .", "let r turned q 1"], 3),
            (["draw p . . . .", "let r turned p 9"], 3), (["remove p"], 2), (["draw p . . . .", "let r turned p 1", "remove p"], 4),
            (["draw p . . . .", "let r turned p 1", "draw r . . . ."], 4), (["draw p . . . .", "let r turned p 1", "let s turned r 1", "let r turned s 1"], 5),
            ([f"draw {chr(97 + at)} . . . ." for at in range(13)], 14),
        ):
            self.check_bad("\n".join(["desk 2"] + deeds + ["place 0"]), number)
            self.check_bad("\n".join(["desk 2", "draw p p . . .", "place 1", "mark a"] + deeds), number + 3)
            self.check_bad("\n".join(["desk 2", "place 0", "mark a", "draw p p . . .", "mark b"] + deeds + ["mark a"]), number + 4)

    def test_deeds_of_a_mark_stand_on_their_own(self):
        text = "desk 2\ndraw p p . . .\nplace 1\nmark a\nlet r turned p 1"
        self.check_bad(text, 5)
        text = "desk 2\nplace 0\nmark a\ndraw p p . . .\nmark b\nremove p"
        self.check_bad(text, 6)
        self.assertEqual(read_journal("desk 2\nplace 0\nmark a\ndraw p p . . .\nmark b\ndraw p . . . .").marks, ("a", "b"))

    def test_blocks_of_the_right_base(self):
        self.check_bad("desk 3\ndraw p p . . .\nplace 0", 2)
        self.assertEqual(read_journal("desk 3\ndraw p" + " p" * 9 + "\nplace 1").kinds, ("p",))

    def test_long_journals(self):
        deeds = ["draw p p . . ."] + [f"change p {at % 2} {at // 2 % 2} {'#.p'[at % 3]}" for at in range(5000)]
        text = "\n".join(["desk 2"] + deeds + ["place 2500"])
        self.assertLess(len(text), 100000)
        desk = read_journal(text)
        self.assertEqual((len(desk.deeds), desk.place, journal(desk) == text), (5001, 2500, True))
        self.check_bad(text.replace("place 2500", "place 5002"), 5003)
