"""Programs compared for all pictures: what a point of the result needs decides it."""

from selfdrawn.errors import BadPoint, OtherInputs
from selfdrawn.maps import fixed
from selfdrawn.needs import enough_sets, fields_of, is_enough, point_in
from selfdrawn.programs import are_lots, is_fine_point, point_made


def point_told(pair):
    """The point that a pair of numbers tells that are the same for all points."""
    return tuple([(top, low) for _, _, top, low in pair])


def pairs_in(marks, total):
    """The ascending tuple of the pairs, (input, point), in a set."""
    return tuple(sorted([(name, point_told(pair)) for (name, pair), mark in marks.items() if mark & total]))


def needs_at(program, point):
    """All sets of pairs (input, point) that are enough for the point, and no part of which is."""
    if not is_fine_point(point):
        raise BadPoint(point)
    marks = {}
    sets = enough_sets(program, tuple([fixed(part) for part in point]), point, marks)
    told = [pairs_in(marks, total) for total in sets]
    return tuple([pairs for _, pairs in sorted([(len(pairs), pairs) for pairs in told])])


def check_inputs(one, other):
    """Refuse programs that have not the same inputs."""
    if one.inputs != other.inputs:
        raise OtherInputs(other.inputs)


def sets_in(programs, field, marks):
    """For each program the sets that are enough in all of a field, told by maps."""
    across, down = field
    pair = (across[0], down[0])
    return [enough_sets(program, pair, point_in(field, 2), marks) for program in programs]


def parts_at(programs, point):
    """Lots with which just one of two programs makes a point; None if the same is needed for it."""
    marks = {}
    pair = tuple([fixed(part) for part in point])
    mine, others = [enough_sets(program, pair, point, marks) for program in programs]
    shown = [total for total in mine if not is_enough(others, total)]
    shown = shown + [total for total in others if not is_enough(mine, total)]
    if not shown:
        return None
    told = pairs_in(marks, shown[0])
    lots = [tuple([place for name, place in told if name == wanted]) for wanted in programs[0].inputs]
    return "parts", tuple(lots), point_told(pair)


def parts_in(programs, field):
    """What shows, at some point of a field, that two programs differ there."""
    part = 2
    told = None
    # Two maps that differ in the field lead few of these points to one: there is one at which no two do.
    while told is None:
        told = parts_at(programs, point_in(field, part))
        part += 1
    return told


def same_program(one, other):
    """Whether both have the same result for all pictures; if not, lots and a point that show it."""
    check_inputs(one, other)
    programs = (one, other)
    fields = fields_of(programs)
    for field in fields:
        mine, others = sets_in(programs, field, {})
        if mine != others:
            return parts_in(programs, field)
    return ("same",)


def shows_parts(one, other, value):
    """Whether value tells lots and a point that just one of both programs makes of them."""
    check_inputs(one, other)
    if not isinstance(value, tuple) or len(value) != 3:
        return False
    word, lots, point = value
    if not isinstance(word, str) or word != "parts":
        return False
    if not are_lots(lots, len(one.inputs)) or not is_fine_point(point):
        return False
    return point_made(one, lots, point) != point_made(other, lots, point)


def needless_inputs(program):
    """The ascending tuple of the inputs on which the result never depends."""
    needed = set()
    fields = fields_of((program,))
    for field in fields:
        marks = {}
        sets = sets_in((program,), field, marks)[0]
        for (name, _), mark in marks.items():
            if any([mark & total for total in sets]):
                needed.add(name)
    return tuple([name for name in program.inputs if name not in needed])
