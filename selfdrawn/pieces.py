"""Pieces: what touches, books whose pictures are in one piece, and pieces of cells at a depth."""

from selfdrawn.books import DEEPEST
from selfdrawn.checks import is_whole_in
from selfdrawn.errors import BadNumber, BadOffset
from selfdrawn.grids import block_cells, cell_index, directions, facing_parts, power
from selfdrawn.making import check_alike, turned_picture
from selfdrawn.pictures import Picture, like_picture, rows_of, whole_picture
from selfdrawn.points import first_point
from selfdrawn.tables import EMPTY, explored, form_of, living


def is_offset(value, sides):
    """Whether value is a tuple of as many integers from -1 to 1 as there are sides."""
    if not isinstance(value, tuple) or len(value) != sides:
        return False
    return all([is_whole_in(part, -1, 1) for part in value])


def touching_table(one, other, offset):
    """The table of the points of one that other has too, drawn in the square in this direction from that of one.

    Contents hold their rims, so cells along the common side, pair by pair, tell each common point.
    """
    rows, others = rows_of(one), rows_of(other)
    base = one.base
    back = tuple([-step for step in offset])
    facing = list(zip(facing_parts(base, offset), facing_parts(base, back)))
    width = power(base, one.sides)

    def parts(pair):
        row, beside = rows[pair[0]], others[pair[1]]
        told = [EMPTY] * width
        for at, end in facing:
            if row[at] != EMPTY and beside[end] != EMPTY:
                told[at] = (row[at], beside[end])
        return told

    return explored((0, 0), parts)


def touching_point(one, other, offset):
    """The first point of one that other has too, each point of other being moved by offset; None if there is none."""
    check_alike(one, other)
    if not is_offset(offset, one.sides):
        raise BadOffset(offset)
    return first_point(like_picture(one, form_of(touching_table(one, other, offset))))


def step_between(cell, other):
    """The step from a cell to another one."""
    return tuple([end - begin for begin, end in zip(cell, other)])


def lots_of(cells, linked):
    """The greatest sets of cells that are led to one another by linked ones, each ascending, by their least cells.

    Linked tells, for a cell, those to which it is linked.
    """
    lots = []
    held = set()
    ascending = sorted(cells)
    for cell in ascending:
        if cell not in held:
            held.add(cell)
            lot = [cell]
            gone = 0
            while gone < len(lot):
                near = linked(lot[gone])
                for beside in near:
                    if beside not in held:
                        held.add(beside)
                        lot.append(beside)
                gone += 1
            lots.append(tuple(sorted(lot)))
    return tuple(lots)


class Blocks:
    """What is drawn in the cells of the blocks of a book, as pictures, and which of these touch."""

    def __init__(self, book):
        self.book = book
        self.whole = whole_picture(book.sides, book.base)
        self.drawn = [Picture(book, name) for name in book.names]
        self.turned = {}
        self.found = {}

    def shown(self, what):
        """The picture that is drawn where a block says so; None if it is blank or has no points."""
        if what is None or what == "full":
            return self.whole if what == "full" else None
        kind, motion = what
        if not self.drawn[kind].form:
            return None
        if what not in self.turned:
            self.turned[what] = turned_picture(self.drawn[kind], motion)
        return self.turned[what]

    def touch(self, what, other, step):
        """Whether what is drawn so touches what is drawn so in the cell in this direction."""
        key = (what, other, step)
        if key not in self.found:
            self.found[key] = living(touching_table(self.shown(what), self.shown(other), step))[0]
        return self.found[key]

    def lots(self, kind):
        """The lots of touching cells in the block of a kind."""
        cells = block_cells(self.book.sides, self.book.base)
        held = {}
        for place, what in zip(cells, self.book.blocks[kind]):
            if self.shown(what) is not None:
                held[place] = what

        def linked(cell):
            told = []
            for other, beside in held.items():
                step = step_between(cell, other)
                if max([abs(far) for far in step]) == 1 and self.touch(held[cell], beside, step):
                    told.append(other)
            return told

        return lots_of(list(held), linked)


def one_pieces(book):
    """Whether in each block with points all cells with points are led to one another by touching ones."""
    blocks = Blocks(book)
    for kind, name in enumerate(book.names):
        if blocks.drawn[kind].form:
            lots = blocks.lots(kind)
            if len(lots) > 1:
                return "parted", name, lots
    return ("whole",)


def shown_sides(picture):
    """For each number of a form the directions in which it has points on the side or at the corner."""
    sides = [step for step in directions(picture.sides) if max([abs(far) for far in step]) == 1]
    shown = [[] for _ in picture.form]
    for side in sides:
        facing = facing_parts(picture.base, side)
        lives = living([tuple([row[at] for at in facing]) for row in picture.form])
        for number, there in enumerate(lives):
            if there:
                shown[number].append(side)
    return shown


def cells_with_points(picture, depth):
    """The cells of this depth that meet a picture that is not empty, each with the number of its content."""
    base = picture.base
    parts = block_cells(picture.sides, base)
    cells = {(0,) * picture.sides: 0}
    for _ in range(depth):
        within = {}
        for cell, number in cells.items():
            for part in parts:
                end = picture.form[number][cell_index(part, base)]
                if end != EMPTY:
                    within[tuple([base * place + step for place, step in zip(cell, part)])] = end
        cells = within
    return cells


def piece_count(picture, depth):
    """Into how many greatest sets of linked cells the cells of this depth that meet the picture fall."""
    if not is_whole_in(depth, 0, DEEPEST[picture.base]):
        raise BadNumber(depth)
    if not picture.form:
        return 0
    cells = cells_with_points(picture, depth)
    shown = shown_sides(picture)

    def linked(cell):
        told = [tuple([place + far for place, far in zip(cell, side)]) for side in shown[cells[cell]]]
        # On the rim of the square there is no cell beside.
        return [beside for beside in told if beside in cells]

    return len(lots_of(list(cells), linked))
