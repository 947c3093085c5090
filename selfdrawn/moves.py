"""Pictures that are moved to the right and down; what would leave the unit square is cut off."""

from selfdrawn.checks import is_fraction_in
from selfdrawn.errors import BadMove
from selfdrawn.grids import block_cells
from selfdrawn.pictures import like_picture
from selfdrawn.tables import EMPTY, explored, form_of
from selfdrawn.windows import first_window, scene_of, window_within

MOST_LOW_OF_MOVES = 12


def is_move(value, sides):
    """Whether value is a tuple of as many fractions from -1 to 1, with low at most 12, as there are sides."""
    if not isinstance(value, tuple) or len(value) != sides:
        return False
    return all([is_fraction_in(part, -1, 1) and part[1] <= MOST_LOW_OF_MOVES for part in value])


def spans_of(rests):
    """For each side how many cells a stretch of the width of one lies in, if it begins at this rest of one."""
    return [2 if rest else 1 for rest in rests]


def moved_parts(rows, base, lows, state, cells):
    """The parts of a cell of the moved picture, which lies, led back, in a window, its rests behind its corner."""
    rests, window = state
    width = spans_of(rests)[0]
    told = []
    for cell in cells:
        begins = [divmod(base * rest + place * low, low) for rest, place, low in zip(rests, cell, lows)]
        behind = tuple([rest for _, rest in begins])
        spans = spans_of(behind)
        places = [list(range(begin, begin + span)) for (begin, _), span in zip(begins, spans)]
        within = window_within(rows, base, window, width, places)
        told.append(EMPTY if within == EMPTY else (behind, within))
    return told


def moved_picture(picture, by):
    """All points p + by of the unit square for which p is a point of the picture."""
    if not is_move(by, picture.sides):
        raise BadMove(by)
    rows, found = scene_of(picture)
    lows = [low for _, low in by]
    begins = [divmod(-top, low) for top, low in by]
    rests = tuple([rest for _, rest in begins])
    corner = [begin for begin, _ in begins]
    start = (rests, first_window(picture, found, corner, spans_of(rests)))
    cells = block_cells(picture.sides, picture.base)
    table = explored(start, lambda state: moved_parts(rows, picture.base, lows, state, cells))
    return like_picture(picture, form_of(table))
