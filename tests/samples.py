"""Books, pictures and points to try things with, the same ones at each run."""

import random
from fractions import Fraction
from functools import lru_cache
from math import gcd

from selfdrawn.books import Book
from selfdrawn.pictures import Picture

KINDS = [(sides, base) for sides in (1, 2) for base in (2, 3, 4)]
# Lows with short rings at base 2, 3 and 4, prime ones with long rings, and the greatest one.
LOWS = (1, 2, 3, 4, 5, 6, 7, 8, 9, 12, 13, 15, 16, 24, 26, 27, 30, 31, 36, 40, 48, 53, 54, 56, 59, 60)
NUMBERS = sorted({Fraction(top, low) for low in LOWS for top in range(low + 1)})
SMALL = sorted({Fraction(top, low) for low in range(1, 10) for top in range(low + 1)})


def written(numbers):
    """Numbers as the tuple of fractions that the package takes."""
    return tuple((number.numerator, number.denominator) for number in numbers)


def fractions_with(low):
    """All fractions from 0 to 1 with this low."""
    return [(top, low) for top in range(low + 1) if gcd(top, low) == 1]


def some_book(draw, sides, base, many, blank=1, full=1):
    """A book with so many kinds, ka, kb, and so on; blank and full weigh these words against four of kinds."""
    names = ["k" + chr(97 + number) for number in range(many)]
    every = [""] + [f"/{motion}" for motion in range(1, 8 if sides == 2 else 2)]
    # With all motions at once most pictures of planes are great ones.
    marks = [draw.choice(every) for _ in range(3)]
    lines = [f"{'plane' if sides == 2 else 'line'} {base}"]
    for name in names:
        lines.append("kind " + name)
        for _ in range(base if sides == 2 else 1):
            words = ["."] * blank + ["#"] * full + [draw.choice(names) + draw.choice(marks) for _ in range(4)]
            lines.append(" ".join(draw.choice(words) for _ in range(base)))
    return Book("\n".join(lines))


@lru_cache(maxsize=None)
def pool(sides, base):
    """Books whose pictures all have at most 60 contents, with a first kind that has points."""
    draw = random.Random(10 * sides + base)
    found = []
    while len(found) < 16:
        blank = draw.choice((2, 4, 8)) * (base if sides == 2 else 1) // 2
        book = some_book(draw, sides, base, draw.choice((1, 2, 2, 3)), blank, draw.choice((0, 1, 1)))
        if all(len(Picture(book, name)) <= 60 for name in book.names) and len(Picture(book, "ka")) > 1:
            found.append(book)
    return found


def small_books(sides, base, wanted, most=60):
    """At most so many books with a kind whose picture has points and at most so many contents, each with this kind."""
    found = [(book, "ka") for book in pool(sides, base) if len(Picture(book, "ka")) <= most]
    return found[:wanted]


def small_pictures(sides, base, wanted, most=60):
    """At most so many pictures that have points and at most so many contents."""
    return [Picture(book, name) for book, name in small_books(sides, base, wanted, most)]


def some_points(draw, sides, many, numbers=NUMBERS):
    """Points, as tuples of Fractions, some of them with equal numbers and on the rim."""
    told = []
    for _ in range(many):
        point = tuple(draw.choice(numbers) for _ in range(sides))
        told.append(draw.choice((point, point, point, point[:1] * sides, (draw.choice((0, 1)) * Fraction(1),) + point[1:])))
    return told


# Pictures with much on seams, at corners and on the rim, and such that turn within themselves.
GALLERY_TEXTS = (
    "line 2\nkind point\npoint .\nkind ends\npoint point/1\nkind half\npoint/1 point\nkind left\n# .\nkind third\n. third/1",
    "line 2\nkind thin\nthin even\nkind even\n. thin\nkind turned\nturned/1 even",
    "line 3\nkind dust\ndust . dust\nkind middle\n. # .\nkind seam\n. dust/1 point\nkind point\npoint . .",
    "line 4\nkind dust\ndust . . dust/1\nkind gap\ngap # . #\nkind far\n. . . far",
    "plane 2\nkind falling\nfalling .\n. falling\nkind sieve\nsieve .\nsieve sieve\nkind quarter\n. #\n. .",
    "plane 2\nkind side\nside .\nside .\nkind seam\n. side\nside/4 .\nkind cross\nside/4 side\nside/4 side",
    "plane 2\nkind dragon\ndragon/1 .\ndragon/5 dragon\nkind corner\n. dot\ndot .\nkind dot\ndot .\n. .",
    "plane 2\nkind stairs\nstairs #\n. stairs\nkind hook\nhook/1 hook/2\n. hook/3\nkind slanted\n. up\nup .\nkind up\n. up\nup .",
    "plane 3\nkind carpet\ncarpet carpet carpet\ncarpet . carpet\ncarpet carpet carpet\nkind dots\ndots . .\n. dots/2 .\n. . .",
    "plane 3\nkind plus\n. plus .\nplus plus plus\n. plus .\nkind bars\nbars . bars\n. . .\nbars/1 . #",
    "plane 4\nkind wide\nwide . . wide/4\n. . . .\n. . . .\nwide/6 . . wide/2\nkind block\n. . . .\n. # # .\n. . . .\n. . . block",
    "plane 4\nkind row\nrow row row row\n. . . .\n. . . .\n. . . .\nkind steps\n# . . .\n. steps . .\n. . steps/1 .\n. . . #",
)


def gallery(sides, base):
    """The books of the gallery of these sides and this base, with each of their kinds."""
    books = [Book(text) for text in GALLERY_TEXTS]
    return [(book, name) for book in books if (book.sides, book.base) == (sides, base) for name in book.names]


def sample_books(sides, base, wanted, most=60):
    """The gallery, and some other small books."""
    return gallery(sides, base) + small_books(sides, base, wanted, most)


def sample_pictures(sides, base, wanted, most=60):
    """The pictures of the gallery, and of some other small books, the empty and the whole one ahead of them."""
    whole = "\n".join(["kind a"] + [" ".join(["#"] * base)] * (base if sides == 2 else 1))
    head = f"{'plane' if sides == 2 else 'line'} {base}\n"
    told = [Book(head + whole.replace("#", ".")), Book(head + whole)]
    return [Picture(book, "a") for book in told] + [
        Picture(book, name) for book, name in sample_books(sides, base, wanted, most)
    ]


def cells_that_meet(picture, depth):
    """The dict of the cells of this depth that meet a picture, ascending, each with the number of its content."""
    base = picture.base
    cells = {(0,) * picture.sides: 0} if picture.form else {}
    for _ in range(depth):
        parts = {}
        for cell, number in cells.items():
            for at, part in enumerate(picture.form[number]):
                if part != -1:
                    step = (at % base, at // base)[:picture.sides]
                    parts[tuple(base * place + by for place, by in zip(cell, step))] = part
        cells = parts
    return dict(sorted(cells.items()))
