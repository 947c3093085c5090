"""Motions: the turns and mirrorings of the unit square and of the unit stretch."""

from selfdrawn.checks import is_cell, is_point, is_whole, is_whole_in
from selfdrawn.errors import BadCell, BadMotion, BadNumber, BadPoint

# For each motion and each side: the side whose number comes here, and whether
# it is taken from 1. So ((1, True), (0, False)) moves (x, y) to (1 - y, x).
LINE_MOTIONS = (
    ((0, False),),
    ((0, True),),
)
PLANE_MOTIONS = (
    ((0, False), (1, False)),
    ((1, True), (0, False)),
    ((0, True), (1, True)),
    ((1, False), (0, True)),
    ((0, True), (1, False)),
    ((1, True), (0, True)),
    ((0, False), (1, True)),
    ((1, False), (0, False)),
)


def motions_for(sides):
    """The table of the motions for these sides."""
    if not is_whole_in(sides, 1, 2):
        raise BadNumber(sides)
    return LINE_MOTIONS if sides == 1 else PLANE_MOTIONS


def check_motion(motions, value):
    """Refuse a value that is not the number of one of these motions."""
    if not is_whole_in(value, 0, len(motions) - 1):
        raise BadMotion(value)


def joint_motion(sides, one, other):
    """The motion that moves each point to where first one and then other moves it."""
    motions = motions_for(sides)
    check_motion(motions, one)
    check_motion(motions, other)
    joint = []
    for middle, turned in motions[other]:
        start, turned_before = motions[one][middle]
        joint.append((start, turned_before != turned))
    return motions.index(tuple(joint))


def back_motion(sides, one):
    """The motion by which each point comes back to where it was ahead of one."""
    motions = motions_for(sides)
    check_motion(motions, one)
    back = [None] * sides
    for end, (start, turned) in enumerate(motions[one]):
        back[start] = (end, turned)
    return motions.index(tuple(back))


def point_under(sides, motion, point):
    """The point to which the motion moves this point."""
    motions = motions_for(sides)
    check_motion(motions, motion)
    if not is_point(point, sides):
        raise BadPoint(point)
    moved = []
    for start, turned in motions[motion]:
        top, low = point[start]
        moved.append((low - top if turned else top, low))
    return tuple(moved)


def cell_under(sides, size, motion, cell):
    """The cell, among size by size (size) equal ones, to which the motion moves this cell."""
    motions = motions_for(sides)
    if not is_whole(size) or size < 1:
        raise BadNumber(size)
    check_motion(motions, motion)
    if not is_cell(cell, sides, size):
        raise BadCell(cell)
    moved = []
    for start, turned in motions[motion]:
        moved.append(size - 1 - cell[start] if turned else cell[start])
    return tuple(moved)
