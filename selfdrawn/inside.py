"""Inside and outside: what is left of a picture beside another one, what lies outside, edges, solid parts."""

from selfdrawn.beside import start_of
from selfdrawn.grids import block_cells
from selfdrawn.making import check_alike, met_pictures
from selfdrawn.pictures import like_picture, rows_of, whole_picture
from selfdrawn.tables import EMPTY, explored_with, form_from, form_of, leading_to, lumped
from selfdrawn.views import closed_table


def left_table(one, other):
    """The table of the cells in which one has points that other has not, those first that are the whole of each.

    None if there are none. A point that is left can lie on the rim of such a cell.
    """
    rows, others = rows_of(one), rows_of(other)

    def parts(pair):
        return [EMPTY if end[0] == EMPTY else end for end in zip(rows[pair[0]], others[pair[1]])]

    states, table = explored_with((0, start_of(other)), parts)
    left = leading_to(table, [number for number, (_, beside) in enumerate(states) if beside == EMPTY])
    if not left[0]:
        return None
    return [tuple([part if part != EMPTY and left[part] else EMPTY for part in row]) for row in table]


def left_picture(one, other):
    """The closure of all points that are in one and not in other."""
    check_alike(one, other)
    table = left_table(one, other) if one.form else None
    if table is None:
        return like_picture(one, ())
    # Of cells that draw the same one is enough: then there are fewer views.
    marks, rows = lumped(table)
    drawn = form_from(rows, marks[0])
    return like_picture(one, form_of(closed_table(one.sides, one.base, drawn)))


def outside_of(picture):
    """The closure of all points of the square that are not in the picture."""
    return left_picture(whole_picture(picture.sides, picture.base), picture)


def edge_of(picture):
    """The points of the picture that are no inner points."""
    return met_pictures(picture, outside_of(picture))


def solid_part(picture):
    """The closure of the inner points of the picture."""
    return outside_of(outside_of(picture))


def least_cells_within(picture, found):
    """The numbers in the cells of the next depth, each with the least cell that has it."""
    base = picture.base
    cells = block_cells(picture.sides, base)
    least = {}
    for number, above in found:
        for part, cell in zip(picture.form[number], cells):
            if part != EMPTY:
                place = tuple([base * begin + step for begin, step in zip(above, cell)])
                least[part] = min(place, least.get(part, place))
    return least


def inside_cell(picture):
    """The least depth at which some cell has all its points in the picture, and the least such cell."""
    full = [number for number, row in enumerate(picture.form) if (number,) * len(row) == row]
    if not full:
        return ("thin",)
    seen = {0: True}
    found = [(0, (0,) * picture.sides)]
    depth = 0
    while full[0] not in seen:
        least = least_cells_within(picture, found)
        # What came at a lesser depth leads nowhere sooner here.
        found = [(number, cell) for number, cell in least.items() if number not in seen]
        for number, _ in found:
            seen[number] = True
        depth += 1
    cells = dict(found)
    return "inside", depth, cells[full[0]]
