"""Values of every kind, for what has to be refused."""

from selfdrawn.books import Book
from selfdrawn.errors import BadForm
from selfdrawn.pictures import Picture, whole_picture
from tests.helpers import HUGE

BOOK = Book("plane 2\nkind a\na .\n. a")
PLANE = Picture(BOOK, "a")
LINE = whole_picture(1, 3)
DEEP = ()
for _ in range(58):
    DEEP = (DEEP,)
# None of these is a number, a tuple of numbers or of pictures, or a name.
NOTHINGS = (
    None, True, False, "", "a", "0", "1/2", "(0, 0)", "two\nlines", [], [0], [0, 0], [1, 2], [(0, 1), (1, 2)], {}, {0: 0},
    {"a": [1]}, {(0, 1): (1, 2)}, BOOK, PLANE, LINE, BadForm(0), DEEP, (None,), (None, None), ("0",), ("0", "0"),
    (True,), (True, False), ([0], [0]), ({}, {}),
)
NUMBERS_OUT = (HUGE, -HUGE, -1)


def no_integers():
    """What is no integer at all."""
    return NOTHINGS + ((), (0,), (1, 2))


def no_tuples():
    """What is no tuple at all, numbers too."""
    return tuple(value for value in NOTHINGS if not isinstance(value, tuple)) + NUMBERS_OUT + (0, 1, 2)
