"""Section 16: the ways of a desk: back, on, mark, to, tried, copy; equal desks."""

import random
import unittest

from selfdrawn.desk import Desk
from selfdrawn.errors import BadName, BadNumber, BadWords, DrawError, Held, NoKind, NoMark, TooFar
from selfdrawn.journals import journal
from tests.desks import check_desk, check_raises, held, some_deeds
from tests.test_deeds import POINT, some_desk
from tests.values import NOTHINGS, NUMBERS_OUT, no_integers


class BackAndOnTest(unittest.TestCase):

    def test_every_place(self):
        draw = random.Random(420)
        for base in (2, 3):
            desk = some_deeds(draw, base, 15)
            states = {}
            for place in range(15, -1, -1):
                self.assertIsNone(desk.back(0 if place == 15 else 1))
                states[place] = held(desk)
                self.assertEqual(desk.place, place)
                check_desk(self, desk)
            self.assertEqual((len(desk), len(desk.deeds)), (0, 15))
            for _ in range(40):
                place = draw.randrange(16)
                if place <= desk.place:
                    self.assertIsNone(desk.back(desk.place - place))
                else:
                    self.assertIsNone(desk.on(many=place - desk.place))
                self.assertEqual(held(desk), states[place])

    def test_too_far(self):
        desk = some_desk()
        check_raises(self, desk, TooFar, 4, desk.back, 5)
        check_raises(self, desk, TooFar, 0, desk.on, 1)
        desk.back(many=3)
        check_raises(self, desk, TooFar, 1, desk.back, 2)
        check_raises(self, desk, TooFar, 3, desk.on, 4)
        check_raises(self, desk, TooFar, 3, desk.on, 10 ** 299)
        desk.back(1)
        check_raises(self, desk, TooFar, 0, desk.back, 1)
        check_raises(self, desk, TooFar, 4, desk.on, 5)
        desk.on(4)
        self.assertEqual(desk.place, 4)

    def test_no_numbers(self):
        desk = some_desk()
        desk.back(2)
        for value in no_integers() + (-1, -10 ** 299):
            check_raises(self, desk, BadNumber, value, desk.back, value)
            check_raises(self, desk, BadNumber, value, desk.on, value)
        for call in (desk.back, desk.on):
            call(0)
        self.assertEqual(desk.place, 2)

    def test_deeds_behind_the_place_go_when_another_one_is_done(self):
        desk = some_desk()
        desk.back(2)
        check_raises(self, desk, NoKind, "no", desk.change, "no", (0, 0), ".")
        self.assertEqual(len(desk.deeds), 4)
        desk.change("q", (1, 1), "p")
        self.assertEqual((desk.deeds[2:], desk.place, desk.lines), (("change q 1 1 p",), 3, ()))
        check_raises(self, desk, TooFar, 0, desk.on, 1)
        # Also when it is the same deed again.
        desk.back(3)
        desk.draw("p", POINT)
        self.assertEqual((desk.deeds, desk.place), (("draw p p . . .",), 1))

    def test_entries_of_the_place_count(self):
        desk = some_desk()
        check_raises(self, desk, Held, "q", desk.let, "q", "turned p 1")
        desk.back(3)
        desk.let("q", "turned p 1")
        self.assertEqual((desk.kinds, desk.lines), (("p",), ("q",)))


class MarkTest(unittest.TestCase):

    def test_marks_stay(self):
        desk = some_desk()
        self.assertIsNone(desk.mark("late"))
        desk.back(2)
        self.assertIsNone(desk.mark(name="early"))
        self.assertEqual((desk.marks, desk.place, len(desk.deeds)), (("early", "late"), 2, 4))
        desk.remove("q")
        self.assertEqual((desk.marks, desk.deeds[2:]), (("early", "late"), ("remove q",)))
        self.assertIsNone(desk.to("late"))
        self.assertEqual((desk.place, desk.lines, desk.deeds), (4, ("r", "s"), some_desk().deeds))
        self.assertIsNone(desk.to(name="early"))
        self.assertEqual((desk.place, desk.lines, desk.deeds), (2, (), some_desk().deeds[:2]))
        self.assertEqual(desk.marks, ("early", "late"))
        check_desk(self, desk)

    def test_deeds_behind_the_place_are_not_marked(self):
        desk = some_desk()
        desk.back(4)
        desk.mark("none")
        desk.on(4)
        desk.to("none")
        self.assertEqual((desk.deeds, desk.place, len(desk)), ((), 0, 0))

    def test_behind_deeds_that_have_gone(self):
        desk = Desk(2)
        desk.draw("p", POINT)
        desk.mark("one")
        desk.back(1)
        desk.draw("p", ("#",) * 4)
        desk.mark("other")
        desk.to("one")
        self.assertEqual(desk.entry("p"), POINT)
        desk.to("other")
        self.assertEqual(desk.entry("p"), ("#",) * 4)
        desk.back(1)
        self.assertEqual(len(desk), 0)

    def test_names_of_marks(self):
        desk = some_desk()
        for value in tuple(value for value in NOTHINGS if value != "a") + NUMBERS_OUT + (0, "A", "abcdefghi", "a b", "a1", ("a",), "a\n", " a", "."):
            check_raises(self, desk, BadName, value, desk.mark, value)
        for name in ("plane", "line", "kind", "p", "r", "abcdefgh"):
            desk.mark(name)
            check_raises(self, desk, Held, name, desk.mark, name)
        self.assertEqual(desk.marks, ("abcdefgh", "kind", "line", "p", "plane", "r"))
        check_desk(self, desk)
        desk.back(1)
        check_raises(self, desk, Held, "p", desk.mark, "p")

    def test_no_marks(self):
        desk = some_desk()
        desk.mark("early")
        for value in NOTHINGS + NUMBERS_OUT + (0, "Early", "earl", "p", ("early",), "plane"):
            check_raises(self, desk, NoMark, value, desk.to, value)


class TriedTest(unittest.TestCase):

    def change_all(self, desk):
        desk.mark("tried")
        desk.let("t", "met s p")
        desk.back(3)
        desk.remove("q")
        desk.mark("more")
        desk.to("old")
        return "told"

    def some_desk(self):
        desk = some_desk()
        desk.mark("old")
        desk.change("p", (0, 0), "q")
        desk.back(1)
        return desk

    def test_it_is_as_before(self):
        for named in ({}, {"keep": False}, {"keep": 1}, {"keep": None}, {"keep": "True"}, {"keep": [True]}, {"keep": (True,)}, {"keep": 2}):
            desk = self.some_desk()
            before = held(desk)
            self.assertEqual(desk.tried(self.change_all, **named), "told")
            self.assertEqual(held(desk), before, named)
            self.assertEqual(desk, self.some_desk())
            desk.on(1)
            self.assertEqual(desk.entry("p"), ("q", ".", ".", "."))

    def test_it_is_kept(self):
        desk, other = self.some_desk(), self.some_desk()
        self.assertEqual(desk.tried(self.change_all, keep=True), self.change_all(other))
        self.assertEqual(held(desk), held(other))
        check_desk(self, desk)

    def test_what_look_returns(self):
        desk = self.some_desk()
        for value in NOTHINGS:
            self.assertIs(desk.tried(lambda shown: value), value)
            self.assertIs(desk.tried(look=lambda shown: value, keep=True), value)
        self.assertIs(desk.tried(lambda shown: shown), desk)
        self.assertEqual(desk.tried(lambda shown: (shown.remove("s"), shown.lines)), (None, ("r",)))
        self.assertEqual(desk.lines, ("r", "s"))

    def test_errors_are_passed_on(self):
        error = KeyError("mine")

        def look(shown):
            self.change_all(shown)
            raise error

        for named in ({}, {"keep": True}, {"keep": False}):
            desk = self.some_desk()
            before = held(desk)
            with self.assertRaises(KeyError) as caught:
                desk.tried(look, **named)
            self.assertIs(caught.exception, error)
            self.assertEqual(held(desk), before)
            raised = None
            try:
                desk.tried(lambda shown: shown.remove("no"), **named)
            except DrawError as told:
                raised = told
            self.assertEqual(raised.value, "no")
            self.assertEqual(held(desk), before)

    def test_within_one_another(self):
        desk = self.some_desk()
        before = held(desk)

        def outer(shown):
            shown.remove("s")
            shown.tried(lambda again: again.remove("r"), keep=True)
            shown.tried(lambda again: again.draw("p", ("#",) * 4))
            return shown.lines, shown.entry("p")

        self.assertEqual(desk.tried(outer), ((), POINT))
        self.assertEqual(held(desk), before)
        self.assertEqual(desk.tried(outer, keep=True), ((), POINT))
        self.assertEqual(desk.lines, ())

    def test_keep_is_passed_by_its_name_alone(self):
        desk = self.some_desk()
        with self.assertRaises(TypeError):
            desk.tried(lambda shown: None, True)


class ArgumentsTest(unittest.TestCase):

    CALLS = (
        ("draw", {"name": "t", "words": ("t/3", "p", "#", ".")}), ("change", {"name": "p", "cell": (1, 0), "word": "q/2"}),
        ("let", {"name": "t", "line": "met s p"}), ("remove", {"name": "s"}), ("deed", {"text": "let s turned q 3"}),
        ("entry", {"name": "q"}), ("entry", {"name": "s"}), ("picture", {"name": "s"}), ("hanging", {"name": "p"}), ("program", {"name": "s"}),
        ("back", {"many": 3}), ("on", {"many": 1}), ("mark", {"name": "new"}), ("to", {"name": "old"}), ("copy", {}),
    )

    def some_desk(self):
        desk = some_desk()
        desk.mark("old")
        desk.change("p", (0, 0), "q")
        desk.back(1)
        return desk

    def test_by_position_and_by_name_twice_with_the_same_result(self):
        for method, named in self.CALLS:
            desks = [self.some_desk() for _ in range(3)]
            told = [
                getattr(desks[0], method)(*named.values()), getattr(desks[1], method)(**named),
                getattr(desks[2], method)(**dict(reversed(list(named.items())))),
            ]
            self.assertEqual(told[0], told[1], method)
            self.assertEqual(told[0], told[2])
            self.assertEqual(desks[0], desks[1])
            self.assertEqual([held(desk) for desk in desks[1:]], [held(desks[0])] * 2)

    def test_asks_change_nothing(self):
        for method, named in self.CALLS:
            if method in ("entry", "picture", "hanging", "program", "copy"):
                desk = self.some_desk()
                before = held(desk)
                told = getattr(desk, method)(**named)
                self.assertEqual(getattr(desk, method)(**named), told)
                self.assertEqual(held(desk), before)

    def test_what_is_passed_in_stays(self):
        words = ["p", "p", "p", "p"]
        desk = self.some_desk()
        desk.draw("new", tuple(words))
        words[0] = "#"
        self.assertEqual(desk.entry("new"), ("p",) * 4)
        check_raises(self, desk, BadWords, words, desk.draw, "new", words)
        self.assertEqual(words, ["#", "p", "p", "p"])


class CopyTest(unittest.TestCase):

    def test_copies_do_not_change_along(self):
        draw = random.Random(421)
        for base in (2, 3, 4):
            desk = some_deeds(draw, base, 12)
            desk.mark("one")
            desk.back(5)
            desk.mark("other")
            desk.on(2)
            other = desk.copy()
            before = held(desk)
            self.assertIsInstance(other, Desk)
            self.assertIsNot(other, desk)
            self.assertEqual((other == desk, held(other)), (True, before))
            other.draw("new", (".",) * (base * base))
            other.mark("third")
            self.assertEqual(held(desk), before)
            self.assertNotEqual(desk, other)
            told = held(other)
            desk.to("one")
            desk.mark("fourth")
            desk.back(12)
            self.assertEqual(held(other), told)
            other.to("one")
            self.assertEqual(other.place, 12)

    def test_equal_desks(self):
        desk, other = some_desk(), some_desk()
        self.assertTrue(desk == other)
        self.assertFalse(desk != other)
        other.back(1)
        self.assertFalse(desk == other)
        other.on(1)
        self.assertTrue(desk == other)
        other.mark("a")
        self.assertTrue(desk != other)
        desk.mark("b")
        self.assertFalse(desk == other)
        other.mark("b")
        desk.mark("a")
        self.assertTrue(desk == other)
        desk.deed("change p 0 0 p")
        self.assertFalse(desk == other)
        other.change("p", (0, 0), "p")
        self.assertTrue(desk == other)

    def test_desks_with_the_same_entries_can_differ(self):
        one, other = Desk(2), Desk(2)
        one.draw("p", POINT)
        other.draw("p", (".",) * 4)
        other.change("p", (0, 0), "p")
        self.assertEqual(one.entry("p"), other.entry("p"))
        self.assertNotEqual(one, other)
        self.assertNotEqual(Desk(2), Desk(3))
        self.assertEqual(Desk(4), Desk(4))

    def test_equal_to_nothing_else(self):
        desk = some_desk()
        for value in NOTHINGS + (journal(desk), desk.deeds, desk.base):
            self.assertFalse(desk == value)
            self.assertTrue(desk != value)

    def test_marks_that_mark_other_deeds(self):
        one, other = some_desk(), some_desk()
        one.mark("a")
        other.back(1)
        other.mark("a")
        other.on(1)
        self.assertEqual((one.deeds, one.place, one.marks), (other.deeds, other.place, other.marks))
        self.assertNotEqual(one, other)
