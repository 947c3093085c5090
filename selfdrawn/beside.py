"""Pictures beside one another: within, meeting, apart; and the motions that move a picture to itself."""

from selfdrawn.grids import block_cells, cell_index, directions
from selfdrawn.making import check_alike, met_pictures, turned_picture
from selfdrawn.pictures import rows_of
from selfdrawn.points import first_point
from selfdrawn.tables import EMPTY

MOTIONS = {1: 2, 2: 8}


def start_of(picture):
    """The number of the picture itself in its form; EMPTY for the empty one."""
    return 0 if picture.form else EMPTY


def least_cell_without(pairs):
    """The least cell in which the first number of the pair has points and the second one has none; None if none is."""
    cells = [cell for pair, cell in pairs if pair[0] != EMPTY and pair[1] == EMPTY]
    return min(cells) if cells else None


def pairs_within(rows, others, cells, pairs, base):
    """The pairs of numbers in the cells of the next depth, each with the least cell that has it."""
    least = {}
    for (one, other), above in pairs:
        for part, beside, cell in zip(rows[one], others[other], cells):
            if part != EMPTY:
                place = tuple([base * begin + step for begin, step in zip(above, cell)])
                pair = (part, beside)
                least[pair] = min(place, least.get(pair, place))
    return least


def is_within(one, other):
    """Whether each point of one is a point of other; if not, the least cell that shows it."""
    check_alike(one, other)
    rows, others = rows_of(one), rows_of(other)
    cells = block_cells(one.sides, one.base)
    pairs = [((start_of(one), start_of(other)), (0,) * one.sides)]
    seen = {pairs[0][0]: True}
    depth = 0
    while pairs:
        shown = least_cell_without(pairs)
        if shown is not None:
            return "parts", depth, shown
        least = pairs_within(rows, others, cells, pairs, one.base)
        # What came at a lesser depth shows nothing sooner here.
        pairs = [(pair, cell) for pair, cell in least.items() if pair not in seen]
        for pair, _ in pairs:
            seen[pair] = True
        depth += 1
    return ("within",)


def ways_beside(sides, base):
    """For each direction from a cell to one beside it, or itself, all pairs of their parts that are so again.

    A pair tells the number of the part of the one cell, that of the other, and the direction between them.
    """
    cells = block_cells(sides, base)
    ways = {}
    for side in directions(sides):
        told = []
        for cell in cells:
            for beside in cells:
                step = tuple([base * far + end - begin for far, begin, end in zip(side, cell, beside)])
                if -1 <= min(step) and max(step) <= 1:
                    told.append((cell_index(cell, base), cell_index(beside, base), step))
        ways[side] = told
    return ways


def depth_apart(one, other):
    """The least depth at which no cells of the two are beside one another; they have no common point."""
    rows, others = rows_of(one), rows_of(other)
    ways = ways_beside(one.sides, one.base)
    near = [(0, 0, (0,) * one.sides)] if one.form and other.form else []
    depth = 0
    while near:
        told = {}
        for number, beside, side in near:
            for part, end, step in ways[side]:
                state = (rows[number][part], others[beside][end], step)
                if state[0] != EMPTY and state[1] != EMPTY:
                    told[state] = True
        near = list(told)
        depth += 1
    return depth


def meeting_place(one, other):
    """The first point of both; if there is none, the least depth from which on they are apart."""
    check_alike(one, other)
    met = met_pictures(one, other)
    if met.form:
        return "meet", first_point(met)
    return "apart", depth_apart(one, other)


def symmetries_of(picture):
    """The ascending tuple of all motions that move the picture to itself."""
    motions = range(MOTIONS[picture.sides])
    return tuple([motion for motion in motions if turned_picture(picture, motion).form == picture.form])
