"""Cuts of planes by straight and by slanted lines: which of the points on them the picture has."""

from selfdrawn.checks import is_fraction_in, is_low_fraction
from selfdrawn.errors import BadFraction
from selfdrawn.lines import united_form
from selfdrawn.pictures import made_picture, rows_of
from selfdrawn.points import figure_and_rest
from selfdrawn.shadows import check_axis, check_plane, check_whole, parts_by_stretch
from selfdrawn.tables import EMPTY

MOST_LOW_OF_SLANTED = 12
MOST_FACTOR = 3


def parts_at(rows, base, axis, low, state):
    """The contents along a straight line, each with the rest of the line in it; figures of the line told once do."""
    number, top = state
    figure, rest = figure_and_rest(base, top, low)
    begin = figure * base
    parts = parts_by_stretch(rows[number], base, axis)[begin:begin + base]
    return [EMPTY if part == EMPTY else (part, rest) for part in parts]


def cut_at(picture, axis, at):
    """The line of the y of all points (at, y), if axis is 0, or of the x of all points (x, at), if it is 1."""
    check_plane(picture)
    check_axis(axis)
    if not is_low_fraction(at):
        raise BadFraction(at)
    top, low = at
    base = picture.base
    rows = rows_of(picture)
    form = united_form(base, (0, top), lambda state: parts_at(rows, base, axis, low, state))
    return made_picture(1, base, form)


def slanted_parts(rows, base, slant, state):
    """For each column the contents of its cells, each with how the slanted line lies in this cell.

    Slant is (p, q, low): the line has q * y = p * x + top / low, top being kept with each content.
    """
    number, top = state
    p, q, low = slant
    told = []
    for column in range(base):
        for row, part in enumerate(rows[number][column::base]):
            within = base * top + (p * column - q * row) * low
            passes = min(0, -p) * low <= within <= max(q, q - p) * low
            told.append((part, within) if part != EMPTY and passes else EMPTY)
    return told


def slanted_cut(picture, p, q, at):
    """The line of all x for which the picture has the point (x, y) with q * y = p * x + at."""
    check_plane(picture)
    check_whole(p, -MOST_FACTOR, MOST_FACTOR)
    check_whole(q, 1, MOST_FACTOR)
    if not is_fraction_in(at, -3, 6) or at[1] > MOST_LOW_OF_SLANTED:
        raise BadFraction(at)
    top, low = at
    base = picture.base
    rows = rows_of(picture)
    form = united_form(base, (0, top), lambda state: slanted_parts(rows, base, (p, q, low), state))
    return made_picture(1, base, form)
