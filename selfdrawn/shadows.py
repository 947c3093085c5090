"""Shadows of planes, which are lines: straight ones on the axes, and slanted ones, of sums."""

from selfdrawn.checks import is_whole_in
from selfdrawn.errors import BadAxis, BadNumber, BadSides
from selfdrawn.grids import block_cells
from selfdrawn.lines import united_form
from selfdrawn.pictures import made_picture, rows_of
from selfdrawn.tables import EMPTY

MOST_FACTOR = 3


def check_plane(picture):
    """Refuse a line."""
    if picture.sides != 2:
        raise BadSides(1)


def check_axis(axis):
    """Refuse what is not the number of an axis."""
    if not is_whole_in(axis, 0, 1):
        raise BadAxis(axis)


def check_whole(value, least, most):
    """Refuse what is not an integer from least to most."""
    if not is_whole_in(value, least, most):
        raise BadNumber(value)


def parts_by_stretch(row, base, axis):
    """The parts of a row, column by column if axis is 0, row by row if it is 1."""
    if axis == 1:
        return row
    return [part for column in range(base) for part in row[column::base]]


def shadow_of(picture, axis):
    """The line of the x of all points, if axis is 0, or of their y, if it is 1."""
    check_plane(picture)
    check_axis(axis)
    base = picture.base
    rows = rows_of(picture)
    form = united_form(base, 0, lambda number: parts_by_stretch(rows[number], base, axis))
    return made_picture(1, base, form)


def sums_within(rows, base, p, q, state):
    """For each stretch the contents of all cells, each with the whole number that it has to exceed there.

    What lies below 0 or above the greatest sum would have a corner of a cell alone; the cell beside it, or this
    one with another number, has this point, too.
    """
    number, whole = state
    told = []
    for stretch in range(base):
        for part, (column, row) in zip(rows[number], block_cells(2, base)):
            left = base * whole + stretch - p * column - q * row
            told.append((part, left) if part != EMPTY and 0 <= left < p + q else EMPTY)
    return told


def slanted_shadow(picture, p, q):
    """The lines of all sums p * x + q * y from 0 to 1, from 1 to 2, and so on."""
    check_plane(picture)
    check_whole(p, 1, MOST_FACTOR)
    check_whole(q, 1, MOST_FACTOR)
    base = picture.base
    rows = rows_of(picture)
    lines = []
    for whole in range(p + q):
        form = united_form(base, (0, whole), lambda state: sums_within(rows, base, p, q, state))
        lines.append(made_picture(1, base, form))
    return tuple(lines)
