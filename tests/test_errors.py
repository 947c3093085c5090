"""Section 17, and what section 2 says of errors."""

import unittest

from selfdrawn import errors
from selfdrawn.books import Book

NAMES = (
    "BadBook, BadMotion, BadPoint, BadCell, BadName, BadNumber, BadForm, BadFraction, BadPlace, Unlike, "
    "BadPictures, BadSides, NoBase, BadMove, BadAxis, BadBox, NotFew, TooMany, BadOffset, BadProgram, BadLots, "
    "OtherInputs, Held, BadWords, NoKind, Full, BadWord, BadLine, NoName, Ring, InUse, BadDeed, NoLine, TooFar, "
    "NoMark, BadJournal"
).split(", ")

VALUES = (
    None, True, False, 0, -1, 10 ** 299, "", "a", "two\nlines", (), (1, (2, "b")), [], [1, [None]], {}, {"a": [1]},
    object(), Book("line 2\nkind a\n. ."),
)


class ErrorsTest(unittest.TestCase):

    def test_all_names_are_there(self):
        self.assertEqual(len(NAMES), 36)
        classes = [name for name, thing in vars(errors).items() if isinstance(thing, type)]
        self.assertEqual(sorted(classes), sorted(NAMES + ["DrawError"]))

    def test_draw_error_derives_from_value_error(self):
        self.assertEqual(errors.DrawError.__bases__, (ValueError,))

    def test_each_derives_directly_from_draw_error(self):
        for name in NAMES:
            self.assertEqual(getattr(errors, name).__bases__, (errors.DrawError,), name)
            self.assertEqual(getattr(errors, name).__name__, name)
            self.assertEqual(getattr(errors, name).__module__, "selfdrawn.errors")

    def test_each_keeps_any_value(self):
        for name in NAMES + ["DrawError"]:
            for value in VALUES:
                self.assertIs(getattr(errors, name)(value).value, value, (name, value))

    def test_the_value_is_set_on_the_object(self):
        for name in NAMES + ["DrawError"]:
            self.assertEqual(vars(getattr(errors, name)((1, 2))), {"value": (1, 2)}, name)

    def test_each_takes_just_one_argument(self):
        for name in NAMES + ["DrawError"]:
            with self.assertRaises(TypeError):
                getattr(errors, name)()
            with self.assertRaises(TypeError):
                getattr(errors, name)(1, 2)

    def test_each_is_raised_and_caught(self):
        for name in NAMES:
            for caught in (getattr(errors, name), errors.DrawError, ValueError):
                with self.assertRaises(caught) as held:
                    raise getattr(errors, name)([name])
                self.assertEqual(held.exception.value, [name])

    def test_values_are_kept_unchanged(self):
        value = [1, {"a": (2, [3])}]
        errors.Unlike(value)
        self.assertEqual(value, [1, {"a": (2, [3])}])
