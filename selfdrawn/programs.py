"""Programs: what makes a picture of a plane out of pictures, line by line."""

from selfdrawn.checks import is_name, is_point
from selfdrawn.errors import BadLots, BadPictures, BadPoint, BadProgram, BadSides
from selfdrawn.grids import power
from selfdrawn.making import check_alike
from selfdrawn.maps import CUT, fixed, led_by, lies_within
from selfdrawn.pictures import Picture
from selfdrawn.steps import made_by, names_in_step, told_step

MOST_LINES = 8
MOST_INPUTS = 4
# Fine points have lows up to 1 with so many noughts.
MOST_NOUGHTS = 60


def told_line(line):
    """What a line tells, (name, word, names .., numbers ..); None if it is none."""
    name, equals, right = line.partition(" = ")
    step = told_step(right) if equals and is_name(name) else None
    return None if step is None else (name,) + step


def told_lines(lines):
    """What each line tells, and the ascending list of the inputs."""
    steps = []
    made = []
    told = []
    for number, line in enumerate(lines, start=1):
        step = told_line(line)
        if step is None or number > MOST_LINES:
            raise BadProgram(number)
        told.extend([name for name in names_in_step(step[1:]) if name not in made])
        if len(set(told)) > MOST_INPUTS:
            raise BadProgram(number)
        made.append(step[0])
        steps.append(step)
    return steps, sorted(set(told))


class Program:
    """What is made of the pictures of its inputs, read from a text."""

    def __init__(self, text):
        if not isinstance(text, str):
            raise BadProgram(0)
        steps, names = told_lines(text.split("\n"))
        self.text = text
        self.inputs = tuple(names)
        self.steps = tuple(steps)

    def __len__(self):
        return len(self.steps)

    def __eq__(self, other):
        return isinstance(other, Program) and self.text == other.text


def check_planes(many, pictures):
    """Refuse what is no tuple of so many planes that are alike in kind."""
    if not isinstance(pictures, tuple) or len(pictures) != many:
        raise BadPictures(pictures)
    if not all([isinstance(picture, Picture) for picture in pictures]):
        raise BadPictures(pictures)
    if not all([picture.sides == 2 for picture in pictures]):
        raise BadSides(1)
    for picture in pictures:
        check_alike(pictures[0], picture)


def worked_out(program, pictures):
    """What a program makes of these pictures, which stand in the sequence of its inputs."""
    check_planes(len(program.inputs), pictures)
    held = dict(zip(program.inputs, pictures))
    for step in program.steps:
        held[step[0]] = made_by(step[1:], held)
    return held[program.steps[-1][0]]


def sources_of(program):
    """For each line the tuple of what it is made of: the numbers of lines, and the names of inputs."""
    nearest = {name: name for name in program.inputs}
    sources = []
    for number, step in enumerate(program.steps):
        sources.append(tuple([nearest[name] for name in names_in_step(step[1:])]))
        nearest[step[0]] = number
    return sources


def is_fine_point(value):
    """Whether value is a tuple of two fractions from 0 to 1 with low at most 10 ** 60."""
    most = power(10, MOST_NOUGHTS)
    return is_point(value, 2) and all([low <= most for _, low in value])


def is_lot(value):
    """Whether value is an ascending tuple of fine points."""
    if not isinstance(value, tuple) or not all([is_fine_point(point) for point in value]):
        return False
    return all([one < other for one, other in zip(value, value[1:])])


def are_lots(value, many):
    """Whether value is a tuple of so many ascending tuples of fine points."""
    return isinstance(value, tuple) and len(value) == many and all([is_lot(lot) for lot in value])


def is_made(program, sources, source, pair, lots):
    """Whether a line or an input has the point that a pair of numbers tells, if the inputs have just their lots."""
    if isinstance(source, str):
        return tuple([(top, low) for _, _, top, low in pair]) in lots[source]
    step = program.steps[source][1:]
    parts = sources[source]
    if step[0] in ("joined", "met"):
        had = [is_made(program, sources, part, pair, lots) for part in parts]
        return True in had if step[0] == "joined" else False not in had
    led = led_by(step, pair)
    if step[0] in CUT and not lies_within(led, ((0, 1), (0, 1))):
        return False
    return is_made(program, sources, parts[0], led, lots)


def point_made(program, lots, point):
    """Whether the point is in the result if each input has just the points of its lot."""
    if not are_lots(lots, len(program.inputs)):
        raise BadLots(lots)
    if not is_fine_point(point):
        raise BadPoint(point)
    held = dict(zip(program.inputs, lots))
    pair = tuple([fixed(part) for part in point])
    return is_made(program, sources_of(program), len(program.steps) - 1, pair, held)
