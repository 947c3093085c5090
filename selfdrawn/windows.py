"""Windows: several cells side by side that are looked at as one; also such that lie beside the unit square.

Beside the unit square a picture has only what lies on the common side or corner. A window is the tuple of what
its cells hold, row by row, as classes of a table, so that windows with the same points are the same.
"""

from selfdrawn.grids import block_cells, cell_index, crossed, directions
from selfdrawn.pictures import rows_of
from selfdrawn.tables import EMPTY, lumped


def part_beside(base, side, cell):
    """The cell of depth 1 of a square in this direction that has what of its points lies in a cell of ours.

    None if no points of the square can lie in it.
    """
    place = []
    for step, own in zip(side, cell):
        if step != 0 and own != (base - 1 if step == 1 else 0):
            return None
        place.append(own if step == 0 else base - 1 - own)
    return tuple(place)


def beside_table(picture):
    """The table of what each number, drawn in a square in each direction, has in our closed square.

    The states of one direction stand behind those of the one ahead of it.
    """
    # A blank row stands there for the empty picture.
    rows = picture.form or rows_of(picture)
    cells = block_cells(picture.sides, picture.base)
    table = []
    for side in directions(picture.sides):
        begin = len(table)
        places = [part_beside(picture.base, side, cell) for cell in cells]
        parts = [EMPTY if place is None else cell_index(place, picture.base) for place in places]
        for row in rows:
            told = [EMPTY if part == EMPTY else row[part] for part in parts]
            table.append(tuple([EMPTY if number == EMPTY else number + begin for number in told]))
    return table


def scene_of(picture):
    """The table of classes of what the picture has in and beside its square, and the class in each direction to it."""
    table = beside_table(picture)
    marks, rows = lumped(table)
    sides = directions(picture.sides)
    width = len(table) // len(sides)
    return rows, {side: marks[at * width] for at, side in enumerate(sides)}


def first_window(picture, found, corner, spans):
    """The window whose first cell stands at corner, the unit square being (0, 0) (of a line: (0,)).

    Found tells the class of what the picture has in a square, by the direction from there to the unit square.
    """
    window = []
    for cell in crossed([list(range(span)) for span in spans]):
        side = tuple([-(begin + step) for begin, step in zip(corner, cell)])
        window.append(found.get(side, EMPTY))
    return tuple(window)


def window_within(rows, base, window, width, places):
    """The window of some parts of the cells of a window; EMPTY if it has no points.

    Places tells, for each side, the numbers of the columns (rows) of parts, counted from the first cell of the
    window, which is so wide.
    """
    told = []
    for place in crossed(places):
        above = window[cell_index([step // base for step in place], width)]
        told.append(rows[above][cell_index([step % base for step in place], base)])
    return tuple(told) if max(told) != EMPTY else EMPTY
