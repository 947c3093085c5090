"""Cells of equal grids: in which sequence they stand, and the directions to those beside."""


def power(base, many):
    """The base, many times multiplied."""
    result = 1
    for _ in range(many):
        result = result * base
    return result


def crossed(lists):
    """All tuples with one of each list, row by row: those of the first list change first."""
    if len(lists) == 1:
        return [(one,) for one in lists[0]]
    return [(one, other) for other in lists[1] for one in lists[0]]


def block_cells(sides, size):
    """The cells among size by size (size) ones, row by row."""
    return crossed([list(range(size))] * sides)


def cell_index(cell, width):
    """The number of a cell, row by row, each row being so wide."""
    index = 0
    for place in reversed(cell):
        index = index * width + place
    return index


def directions(sides):
    """The steps to a cell itself and to all beside it, row by row; the opposite of one stands as far from the end."""
    return crossed([[-1, 0, 1]] * sides)


def facing_parts(base, side):
    """The numbers of the parts of a cell that lie on this side of it, at this corner, or in it; side is a direction."""
    places = {-1: [0], 0: list(range(base)), 1: [base - 1]}
    return [cell_index(cell, base) for cell in crossed([places[step] for step in side])]
