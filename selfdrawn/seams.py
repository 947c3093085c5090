"""Whether a table is the form of a picture."""

from selfdrawn.checks import is_whole_in
from selfdrawn.grids import block_cells, cell_index, directions, facing_parts, power
from selfdrawn.tables import EMPTY, classes_of, form_of

MOST_NUMBERS = 200


def is_number_table(form, width):
    """Whether form is a tuple of at most 200 tuples, so wide, of numbers of these or EMPTY."""
    if not isinstance(form, tuple) or len(form) > MOST_NUMBERS:
        return False
    if not all([isinstance(row, tuple) and len(row) == width for row in form]):
        return False
    return all([is_whole_in(part, EMPTY, len(form) - 1) for row in form for part in row])


def shown_across(form, base, side):
    """What each number, EMPTY last, shows on this side, and what on the opposite one: equal marks for equal points."""
    near = facing_parts(base, side)
    far = facing_parts(base, tuple([-step for step in side]))
    many = len(form)
    table = [tuple([row[part] for part in near]) for row in form]
    for row in form:
        table.append(tuple([row[part] if row[part] == EMPTY else row[part] + many for part in far]))
    marks = classes_of(table)
    return marks[:many] + [EMPTY], marks[many:] + [EMPTY]


def cells_across(sides, base, side):
    """All pairs of numbers of cells of which the second one lies on this side of the first."""
    pairs = []
    for cell in block_cells(sides, base):
        beside = [place + step for place, step in zip(cell, side)]
        if max(beside) < base:
            pairs.append((cell_index(cell, base), cell_index(beside, base)))
    return pairs


def fits_along_seams(sides, base, form):
    """Whether cells of depth 1 that have a common side have the same points there, in all numbers of a form."""
    for side in directions(sides):
        if sum([abs(step) for step in side]) == 1 and max(side) == 1:
            near, far = shown_across(form, base, side)
            pairs = cells_across(sides, base, side)
            if any([near[row[one]] != far[row[other]] for row in form for one, other in pairs]):
                return False
    return True


def is_form(sides, base, form):
    """Whether form is the form of a picture.

    If cells fit along all seams, what a number draws in a closed cell is all that it has there. So its numbers
    stand for contents, and it is a form if each content has one number, and they stand in their sequence.
    """
    if not is_number_table(form, power(base, sides)):
        return False
    if not form:
        return True
    return form_of(form) == form and fits_along_seams(sides, base, form)
