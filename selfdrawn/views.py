"""What cells hold with their rims, where a table tells only of each cell what is drawn within it itself.

A view of a cell tells the state that is drawn in it and those in the cells beside it, in each direction. Of a
state beside only what it draws on the common side or corner matters: one state stands for all that draw the same.
"""

from selfdrawn.grids import block_cells, cell_index, directions, facing_parts
from selfdrawn.tables import EMPTY, classes_of, explored


def stand_ins(table, base, side):
    """For each state the one that stands for all that draw the same on this side; EMPTY, also last, for nothing."""
    shown = facing_parts(base, side)
    firsts = {EMPTY: EMPTY}
    found = []
    for number, mark in enumerate(classes_of([tuple([row[part] for part in shown]) for row in table])):
        found.append(firsts.setdefault(mark, number))
    return found + [EMPTY]


def ways_into(sides, base):
    """For each cell of depth 1, and each direction from it: the direction of the cell of depth 0 and the part there."""
    steps = directions(sides)
    ways = []
    for cell in block_cells(sides, base):
        way = []
        for step in steps:
            places = [place + one for place, one in zip(cell, step)]
            above = tuple([place // base + 1 for place in places])
            part = tuple([place % base for place in places])
            way.append((cell_index(above, 3), cell_index(part, base)))
        ways.append(way)
    return ways


def views_within(table, view, ways, stands):
    """The views of the cells of a cell with this view."""
    within = []
    for way in ways:
        # A state that is EMPTY leads to the last row, which is blank.
        parts = [stand[table[view[above]][part]] for (above, part), stand in zip(way, stands)]
        within.append(tuple(parts) if max(parts) != EMPTY else EMPTY)
    return within


def closed_table(sides, base, drawn):
    """The table of what state 0 of a table has in closed cells, with all that cells beside draw on their rims."""
    steps = directions(sides)
    # A state in this direction shows the side that faces back.
    stands = [stand_ins(drawn, base, side) for side in reversed(steps)]
    table = list(drawn) + [(EMPTY,) * len(drawn[0])]
    middle = len(steps) // 2
    start = [EMPTY] * len(steps)
    start[middle] = stands[middle][0]
    ways = ways_into(sides, base)
    return explored(tuple(start), lambda view: views_within(table, view, ways, stands))
