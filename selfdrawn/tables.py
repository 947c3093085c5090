"""Tables: numbered states, each with the tuple of the numbers of the states of its parts, row by row.

A state stands for a closed set of points, its parts for what this set has in its closed cells of depth 1.
So a set has points exactly if some endless way leads on from its state: the cells on it close in on a point.
"""

# Stands, among parts, for what has no points.
EMPTY = -1


def explored_with(start, parts):
    """All states that come from start, in the sequence in which they come, and their table.

    Parts tells the states of the cells of one. Start is number 0; states are numbered as the contents in a form are.
    """
    numbers = {EMPTY: EMPTY, start: 0}
    states = [start]
    table = []
    while len(table) < len(states):
        row = []
        told = parts(states[len(table)])
        for part in told:
            if part not in numbers:
                numbers[part] = len(states)
                states.append(part)
            row.append(numbers[part])
        table.append(tuple(row))
    return states, table


def explored(start, parts):
    """The table of start, as number 0, and of all states that come from it: parts tells those of the cells of one."""
    _, table = explored_with(start, parts)
    return table


def leading_to(table, wanted):
    """For each state whether some of those wanted comes from it; each of them comes from itself."""
    above = [[] for _ in table]
    for number, row in enumerate(table):
        for part in row:
            if part != EMPTY:
                above[part].append(number)
    there = [False] * len(table)
    for number in wanted:
        there[number] = True
    found = list(wanted)
    gone = 0
    while gone < len(found):
        ways = above[found[gone]]
        for number in ways:
            if not there[number]:
                there[number] = True
                found.append(number)
        gone += 1
    return there


def living(table):
    """For each state whether some endless way leads on from it."""
    above = [[] for _ in table]
    left = []
    for number, row in enumerate(table):
        there = [part for part in row if part != EMPTY]
        left.append(len(there))
        for part in there:
            above[part].append(number)
    dead = [number for number, many in enumerate(left) if many == 0]
    gone = 0
    while gone < len(dead):
        ways = above[dead[gone]]
        for number in ways:
            left[number] -= 1
            if left[number] == 0:
                dead.append(number)
        gone += 1
    return [many > 0 for many in left]


def classes_of(table):
    """For each state the number of its class: those whose endless ways are the same have one; EMPTY if it has none."""
    marks = [0 if lives else EMPTY for lives in living(table)]
    many = 0
    while True:
        seen = {}
        # The mark behind all others is that of EMPTY, which as an index is the last one.
        ends = marks + [EMPTY]
        marks = []
        for mark, row in zip(ends, table):
            if mark != EMPTY:
                mark = seen.setdefault(tuple([ends[part] for part in row]), len(seen))
            marks.append(mark)
        if len(seen) == many:
            return marks
        many = len(seen)


def lumped(table):
    """The classes of the states, and a table of the classes, with a row without points behind it for EMPTY."""
    marks = classes_of(table)
    ends = marks + [EMPTY]
    rows = {}
    for mark, row in zip(marks, table):
        if mark != EMPTY and mark not in rows:
            rows[mark] = tuple([ends[part] for part in row])
    blank = (EMPTY,) * len(table[0])
    return marks, [rows[mark] for mark in range(len(rows))] + [blank]


def form_of(table):
    """The form of the set of state 0 of a table."""
    marks, rows = lumped(table)
    return form_from(rows, marks[0])


def form_from(rows, number):
    """The form of a state of a table in which no two states have the same points, and each has some."""
    if number == EMPTY:
        return ()
    return tuple(explored(number, lambda state: rows[state]))
