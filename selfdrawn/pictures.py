"""Pictures: closed sets of points that are drawn again within themselves, told by their forms."""

from selfdrawn.books import BLANK_WORD, FULL_WORD, Book, cut_cell
from selfdrawn.checks import is_base, is_cell, is_low_point_of_any, is_whole_in
from selfdrawn.errors import BadCell, BadForm, BadName, BadNumber, BadPoint
from selfdrawn.grids import block_cells, cell_index, power
from selfdrawn.seams import is_form
from selfdrawn.tables import EMPTY, explored, form_from, form_of
from selfdrawn.views import closed_table

DEEPEST_ASKED = 200
LETTERS = "abcdefghijklmnopqrstuvwxyz"
HEADS = {1: "line", 2: "plane"}


def parts_drawn(book, what):
    """What draws each part of a cell that is drawn so, row by row."""
    parts = [EMPTY] * power(book.base, book.sides)
    for cell, drawn in cut_cell(book, (0,) * book.sides, what):
        parts[cell_index(cell, book.base)] = drawn
    return parts


def drawn_form(book, kind):
    """The form of the picture of a kind."""
    drawn = explored((kind, 0), lambda what: parts_drawn(book, what))
    return form_of(closed_table(book.sides, book.base, drawn))


class Picture:
    """The set of points that a kind of a book draws."""

    def __init__(self, book, name):
        if name not in book:
            raise BadName(name)
        self.sides = book.sides
        self.base = book.base
        self.form = drawn_form(book, book.names.index(name))

    def __len__(self):
        return len(self.form)

    def __eq__(self, other):
        if not isinstance(other, Picture):
            return False
        return self.sides == other.sides and self.base == other.base and self.form == other.form


def blank_picture(sides, base):
    """The picture without points, sides and base being right."""
    row = " ".join([BLANK_WORD] * base)
    lines = [f"{HEADS[sides]} {base}", "kind a"] + [row] * power(base, sides - 1)
    return Picture(Book("\n".join(lines)), "a")


def made_picture(sides, base, form):
    """The picture with this form, all of which is right."""
    picture = blank_picture(sides, base)
    picture.form = form
    return picture


def like_picture(picture, form):
    """The picture with this form, alike in kind to another one."""
    return made_picture(picture.sides, picture.base, form)


def rows_of(picture):
    """The rows of the form, with a blank one behind them: number 0 leads to it in the empty picture, EMPTY in each."""
    return picture.form + ((EMPTY,) * power(picture.base, picture.sides),)


def check_kind(sides, base):
    """Refuse sides and bases that no picture has."""
    if not is_whole_in(sides, 1, 2):
        raise BadNumber(sides)
    if not is_base(base):
        raise BadNumber(base)


def picture_from(sides, base, form):
    """The picture with this form."""
    check_kind(sides, base)
    if not is_form(sides, base, form):
        raise BadForm(form)
    return made_picture(sides, base, form)


def empty_picture(sides, base):
    """The picture without points."""
    check_kind(sides, base)
    return blank_picture(sides, base)


def whole_picture(sides, base):
    """The picture with all points."""
    check_kind(sides, base)
    return made_picture(sides, base, ((0,) * power(base, sides),))


def point_within(base, low_point, cell):
    """Where a point lies in a closed cell of depth 1, drawn up; EMPTY if it does not lie there. Lows stay."""
    drawn_up = tuple([(base * top - place * low, low) for (top, low), place in zip(low_point, cell)])
    return drawn_up if all([0 <= top <= low for top, low in drawn_up]) else EMPTY


def single_point(base, point):
    """The picture that has just this point."""
    if not is_base(base):
        raise BadNumber(base)
    if not is_low_point_of_any(point):
        raise BadPoint(point)
    cells = block_cells(len(point), base)
    table = explored(point, lambda place: [point_within(base, place, cell) for cell in cells])
    return made_picture(len(point), base, form_of(table))


def number_name(number):
    """The name of a number in a text: a to z, and from 26 on aa, ab, and so on."""
    name = LETTERS[number % 26]
    while number >= 26:
        number = number // 26 - 1
        name = LETTERS[number % 26] + name
    return name


def form_words(form):
    """The word for each number of a form and, last, for EMPTY; the full content has the word of a full cell."""
    full = [(number,) * len(row) == row for number, row in enumerate(form)]
    return [FULL_WORD if whole else number_name(number) for number, whole in enumerate(full)] + [BLANK_WORD]


def picture_text(picture):
    """The text of a book the first kind of which has this picture."""
    words = form_words(picture.form)
    lines = [f"{HEADS[picture.sides]} {picture.base}"]
    # The empty picture has no numbers, but a kind that is blank.
    for number, row in enumerate(picture.form or rows_of(picture)):
        if number == 0 or words[number] != FULL_WORD:
            lines.append(f"kind {number_name(number)}")
            told = [words[part] for part in row]
            lines.extend([" ".join(told[at:at + picture.base]) for at in range(0, len(told), picture.base)])
    return "\n".join(lines)


def content_at(picture, depth, cell):
    """The content of a picture in a cell of this depth."""
    if not is_whole_in(depth, 0, DEEPEST_ASKED):
        raise BadNumber(depth)
    size = power(picture.base, depth)
    if not is_cell(cell, picture.sides, size):
        raise BadCell(cell)
    rows = rows_of(picture)
    number = 0 if picture.form else EMPTY
    for _ in range(depth):
        size = size // picture.base
        part = [place // size % picture.base for place in cell]
        number = rows[number][cell_index(part, picture.base)]
    return like_picture(picture, form_from(rows, number))
