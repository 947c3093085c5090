"""Pictures that are made of pictures: turned, joined, met, put together, taken apart, crossed, at the other base."""

from selfdrawn.errors import BadPictures, BadSides, NoBase, Unlike
from selfdrawn.grids import block_cells, cell_index, power
from selfdrawn.motions import cell_under, check_motion, motions_for
from selfdrawn.pictures import Picture, like_picture, made_picture, rows_of
from selfdrawn.tables import EMPTY, explored, form_from, form_of
from selfdrawn.views import closed_table


def are_alike(one, other):
    """Whether two pictures have the same sides and base."""
    return one.sides == other.sides and one.base == other.base


def check_alike(one, other):
    """Refuse two pictures that are not alike in kind."""
    if not are_alike(one, other):
        raise Unlike((other.sides, other.base))


def turned_picture(picture, motion):
    """All points to which the motion moves points of the picture."""
    check_motion(motions_for(picture.sides), motion)
    if not picture.form:
        return like_picture(picture, ())
    sides, base = picture.sides, picture.base
    cells = block_cells(sides, base)
    ends = [cell_index(cell_under(sides, base, motion, cell), base) for cell in cells]
    table = []
    for row in picture.form:
        turned = list(row)
        for part, end in zip(row, ends):
            turned[end] = part
        table.append(turned)
    return like_picture(picture, form_from(table, 0))


def paired_table(one, other, parts):
    """The table of the pairs of numbers of two pictures; parts tells those of a row of one and a row of other."""
    rows = rows_of(one)
    others = rows_of(other)
    return explored((0, 0), lambda pair: parts(rows[pair[0]], others[pair[1]]))


def joined_parts(row, other):
    """The pairs of parts of which at least one has points."""
    return [pair if pair != (EMPTY, EMPTY) else EMPTY for pair in zip(row, other)]


def met_parts(row, other):
    """The pairs of parts both of which have points."""
    return [pair if EMPTY not in pair else EMPTY for pair in zip(row, other)]


def joined_pictures(one, other):
    """All points of one or of other."""
    check_alike(one, other)
    return like_picture(one, form_of(paired_table(one, other, joined_parts)))


def met_pictures(one, other):
    """All points of both."""
    check_alike(one, other)
    return like_picture(one, form_of(paired_table(one, other, met_parts)))


def are_alike_pictures(value):
    """Whether value is a tuple of at least one picture, all of them alike in kind."""
    if not isinstance(value, tuple) or not value:
        return False
    if not all([isinstance(one, Picture) for one in value]):
        return False
    return all([are_alike(value[0], one) for one in value])


def put_together(pictures):
    """Each picture, drawn smaller, in a cell of depth 1, row by row."""
    if not are_alike_pictures(pictures) or len(pictures) != power(pictures[0].base, pictures[0].sides):
        raise BadPictures(pictures)
    # Behind the row of the whole come the numbers of each picture.
    top = []
    table = [()]
    for picture in pictures:
        begin = len(table)
        top.append(begin if picture.form else EMPTY)
        for row in picture.form:
            table.append(tuple([part if part == EMPTY else part + begin for part in row]))
    table[0] = tuple(top)
    form = form_of(closed_table(pictures[0].sides, pictures[0].base, table))
    return like_picture(pictures[0], form)


def parts_of(picture):
    """The contents of the closed cells of depth 1, row by row."""
    rows = rows_of(picture)
    return tuple([like_picture(picture, form_from(rows, part)) for part in rows[0]])


def crossed_parts(row, other):
    """The pairs of a part of one line, as the column, and a part of another one, as the row."""
    return [EMPTY if EMPTY in (part, beside) else (part, beside) for beside in other for part in row]


def crossed_lines(one, other):
    """The plane of all points (x, y) with x in one and y in other."""
    for line in (one, other):
        if line.sides != 1:
            raise BadSides(2)
    check_alike(one, other)
    return made_picture(2, one.base, form_of(paired_table(one, other, crossed_parts)))


def doubled_table(picture):
    """The table at base 4 of a picture of base 2: cells of depth 2 become those of depth 1."""
    rows = rows_of(picture)
    ways = []
    for cell in block_cells(picture.sides, 4):
        above = cell_index([place // 2 for place in cell], 2)
        ways.append((above, cell_index([place % 2 for place in cell], 2)))
    return explored(0, lambda number: [rows[rows[number][above]][part] for above, part in ways])


def halved_table(picture):
    """The table at base 2 of a picture of base 4: beside its numbers come the halves (quarters) of these."""
    rows = rows_of(picture)
    cells = block_cells(picture.sides, 2)

    def parts(state):
        number, within = state
        if within == ():
            return [(number, corner) for corner in cells]
        told = []
        for cell in cells:
            place = [2 * half + step for half, step in zip(within, cell)]
            part = rows[number][cell_index(place, 4)]
            told.append(EMPTY if part == EMPTY else (part, ()))
        return told

    return explored((0, ()), parts)


def other_base(picture):
    """The picture of base 4 with the same points as one of base 2, or the other way round."""
    if picture.base == 3:
        raise NoBase(3)
    if picture.base == 2:
        return made_picture(picture.sides, 4, form_of(doubled_table(picture)))
    return made_picture(picture.sides, 2, form_of(halved_table(picture)))
