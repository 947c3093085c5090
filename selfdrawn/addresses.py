"""Addresses: the endless rows of cells that close in on points, each point being told by just one of them.

A number that lies on a seam is told in the cell behind the seam; 1 has no cell behind it and is told in the last one.
So each state is a number of a form with, for each side, whether nothing lies behind it.
"""

from selfdrawn.grids import block_cells
from selfdrawn.tables import EMPTY, explored_with


def reached_from(form, number):
    """For each number whether some row of one or more cells leads to it from this one."""
    there = [False] * len(form)
    found = [number]
    gone = 0
    while gone < len(found):
        row = form[found[gone]]
        for part in row:
            if part != EMPTY and not there[part]:
                there[part] = True
                found.append(part)
        gone += 1
    return there


def word_for_many(form):
    """The word for how many points the picture with this form has."""
    if not form:
        return "none"
    reached = [reached_from(form, number) for number in range(len(form))]
    turning = [number for number in range(len(form)) if reached[number][number]]
    for number in turning:
        back = [part for part in form[number] if part != EMPTY and reached[part][number]]
        if len(back) > 1:
            return "more"
    for number in turning:
        if any([reached[number][other] and not reached[other][number] for other in turning]):
            return "countable"
    return "some"


def address_table(picture):
    """The states of a picture, and their table."""
    base = picture.base
    cells = block_cells(picture.sides, base)

    def parts(state):
        number, ends = state
        told = []
        for part, cell in zip(picture.form[number], cells):
            behind = tuple([end and place == base - 1 for end, place in zip(ends, cell)])
            told.append(EMPTY if part == EMPTY else (part, behind))
        return told

    return explored_with((0, (True,) * picture.sides), parts)


def weights_of(table):
    """For each state in how many ways state 0 leads to it; None for those that are led through.

    There are finitely many points: so ways that have come to a state that leads back to itself stay in its ring.
    """
    above = [0] * len(table)
    for row in table:
        for part in row:
            if part != EMPTY:
                above[part] += 1
    weights = [0] * len(table)
    weights[0] = 1
    through = [0] if above[0] == 0 else []
    gone = 0
    while gone < len(through):
        state = through[gone]
        row = table[state]
        for part in row:
            if part != EMPTY:
                weights[part] += weights[state]
                above[part] -= 1
                if above[part] == 0:
                    through.append(part)
        weights[state] = None
        gone += 1
    return weights


def ring_from(table, state):
    """The numbers of the parts on the way from a state of a ring back to itself."""
    ring = []
    number = state
    while not ring or number != state:
        part = max(table[number])
        ring.append(table[number].index(part))
        number = part
    return ring


def is_told_here(base, cells, ends, ring):
    """Whether the points of this ring are told by it, and not in a cell behind."""
    for side, end in enumerate(ends):
        if not end and all([cells[at][side] == base - 1 for at in ring]):
            return False
    return True


def rings_of(picture, states, table, weights):
    """For each state of a ring that ways come to, the ring, if points are told by it."""
    cells = block_cells(picture.sides, picture.base)
    rings = {}
    for state, (_, ends) in enumerate(states):
        if weights[state]:
            ring = ring_from(table, state)
            if is_told_here(picture.base, cells, ends, ring):
                rings[state] = ring
    return rings


def many_points(picture):
    """How many points a picture has that has finitely many of them."""
    states, table = address_table(picture)
    weights = weights_of(table)
    rings = rings_of(picture, states, table, weights)
    return sum([weights[state] for state in rings])


def addresses_of(picture):
    """All points of a picture that has few of them, each with the figures, (ahead, ring), of its numbers."""
    states, table = address_table(picture)
    weights = weights_of(table)
    rings = rings_of(picture, states, table, weights)
    cells = block_cells(picture.sides, picture.base)
    found = []
    waiting = [(0, ())]
    while waiting:
        state, ahead = waiting.pop()
        if weights[state] is None:
            waiting.extend([(part, ahead + (at,)) for at, part in enumerate(table[state]) if part != EMPTY])
        elif state in rings:
            ring = rings[state]
            found.append([figures_of(cells, side, ahead, ring) for side in range(picture.sides)])
    return found


def figures_of(cells, side, ahead, ring):
    """The figures, (ahead, ring), on one side of the cells with these numbers."""
    return [cells[at][side] for at in ahead], [cells[at][side] for at in ring]
