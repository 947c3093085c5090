"""Pictures drawn smaller into a cell of an equal grid, and what they have in such a cell drawn greater."""

from selfdrawn.checks import is_cell, is_whole_in
from selfdrawn.errors import BadCell, BadNumber
from selfdrawn.grids import block_cells, cell_index
from selfdrawn.pictures import like_picture, rows_of
from selfdrawn.tables import EMPTY, explored, form_of
from selfdrawn.windows import first_window, scene_of, window_within

MOST_MANY = 4


def check_cell(picture, many, cell):
    """Refuse what tells no cell of a grid of many by many (many) cells."""
    if not is_whole_in(many, 1, MOST_MANY):
        raise BadNumber(many)
    if not is_cell(cell, picture.sides, many):
        raise BadCell(cell)


def lesser_picture(picture, many, cell):
    """The picture drawn many times smaller into this cell.

    A closed cell of the lesser picture holds many by many (many) cells of the picture, side by side.
    """
    check_cell(picture, many, cell)
    base = picture.base
    rows, found = scene_of(picture)
    corner = [-place for place in cell]
    start = first_window(picture, found, corner, [many] * picture.sides)
    cells = block_cells(picture.sides, base)

    def parts(window):
        told = []
        for part in cells:
            places = [list(range(many * place, many * place + many)) for place in part]
            told.append(window_within(rows, base, window, many, places))
        return told

    return like_picture(picture, form_of(explored(start, parts)))


def zoomed_part(rows, base, many, state, part):
    """What is in a part of a cell of the grid that cuts what a number has: the same for a number of the next depth."""
    number, cell = state
    places = [base * place + step for place, step in zip(cell, part)]
    within = rows[number][cell_index([place // many for place in places], base)]
    if within == EMPTY:
        return EMPTY
    return within, tuple([place % many for place in places])


def zoomed_picture(picture, many, cell):
    """What the picture has in this closed cell, drawn up to the unit square."""
    check_cell(picture, many, cell)
    base = picture.base
    rows = rows_of(picture)
    cells = block_cells(picture.sides, base)
    table = explored((0, cell), lambda state: [zoomed_part(rows, base, many, state, part) for part in cells])
    return like_picture(picture, form_of(table))
