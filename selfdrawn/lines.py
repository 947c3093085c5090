"""Lines that are told by ways: each stretch of the line holds what several states have, all of it together."""

from selfdrawn.tables import EMPTY, explored, form_of, lumped


def united_parts(rows, base, united):
    """For each stretch of depth 1 all classes that some of these have there, ascending; EMPTY if there is none."""
    width = len(rows[0]) // base
    told = []
    for begin in range(0, base * width, width):
        there = {}
        for mark in united:
            for part in rows[mark][begin:begin + width]:
                there[part] = True
        parts = tuple(sorted([part for part in there if part != EMPTY]))
        told.append(parts if parts else EMPTY)
    return told


def united_form(base, start, parts):
    """The form of the line of start: parts tells, for each stretch, one behind another, equally many states of it.

    What a state has in a closed stretch is all that these states have. A state with no endless way has nothing.
    """
    marks, rows = lumped(explored(start, parts))
    if marks[0] == EMPTY:
        return ()
    return form_of(explored((marks[0],), lambda united: united_parts(rows, base, united)))
