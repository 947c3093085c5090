"""Needs: the sets of points of inputs that are enough for a point of the result of a program.

Where points are led is told by pairs of numbers as in maps. Such a pair of an input has a mark of its own, a power of
2, and a set of pairs is told by the sum of their marks.
"""

from math import lcm

from selfdrawn.maps import CUT, OWN, fixed, led_by, lies_within
from selfdrawn.programs import sources_of


def least_sets(sums):
    """Those sets of which no other one is a part, ascending."""
    found = []
    # A part of a set has a lesser sum.
    ascending = sorted(set(sums))
    for total in ascending:
        if not is_enough(found, total):
            found.append(total)
    return found


def is_enough(sets, total):
    """Whether one of the sets is this set or a part of it."""
    return any([one & total == one for one in sets])


def enough_sets(program, pair, point, marks):
    """The least sets that are enough for the point to which a pair leads, ascending.

    Point tells what is cut off: where the squares are left that points must not leave. Marks gets a mark for each
    pair of an input that comes: equal pairs have one.
    """
    sources = sources_of(program)
    held = {}

    def sets_of(source, led):
        if isinstance(source, str):
            return [marks.setdefault((source, led), 1 << len(marks))]
        if (source, led) not in held:
            held[source, led] = sets_made(program.steps[source][1:], sources[source], led)
        return held[source, led]

    def sets_made(step, parts, led):
        if step[0] == "joined":
            return least_sets(sets_of(parts[0], led) + sets_of(parts[1], led))
        if step[0] == "met":
            others = sets_of(parts[1], led)
            return least_sets([one | other for one in sets_of(parts[0], led) for other in others])
        below = led_by(step, led)
        if step[0] in CUT and not lies_within(below, point):
            return []
        return sets_of(parts[0], below)

    return sets_of(len(program.steps) - 1, pair)


def pairs_that_are_cut(program):
    """All pairs of numbers that tell of points of the result where they are led by a step that cuts."""
    sources = sources_of(program)
    told = {}
    seen = {}
    waiting = [(len(program.steps) - 1, OWN)]
    while waiting:
        source, pair = waiting.pop()
        if isinstance(source, str) or (source, pair) in seen:
            continue
        seen[source, pair] = True
        step = program.steps[source][1:]
        below = pair if step[0] in ("joined", "met") else led_by(step, pair)
        if step[0] in CUT:
            told[below] = True
        waiting.extend([(part, below) for part in sources[source]])
    return list(told)


def seams_of(programs):
    """For x and for y, where the result is cut: integers, ascending, and the low of which they are the tops."""
    cuts = [[(0, 1), (1, 1)], [(0, 1), (1, 1)]]
    pairs = [pair for program in programs for pair in pairs_that_are_cut(program)]
    for pair in pairs:
        for axis, many, more, low in pair:
            # The number is 0 at one of these and 1 at the other one.
            cuts[axis].extend([(-more, many), (low - more, many)])
    told = []
    for fractions in cuts:
        # Lows can be below 0; what they have in common is not.
        common = 1
        for _, low in fractions:
            common = lcm(common, low)
        tops = [top * (common // low) for top, low in fractions]
        told.append((sorted(set([top for top in tops if 0 <= top <= common])), common))
    return told


def spans_of(axis, seams):
    """The numbers on seams and the stretches between them: each as what it is led by, its begin and its length."""
    tops, common = seams
    spans = [(fixed((top, common)), top, 0, common) for top in tops]
    for begin, end in zip(tops, tops[1:]):
        spans.append((OWN[axis], begin, end - begin, common))
    return spans


def fields_of(programs):
    """The points, stretches and boxes in each of which the same is cut off: each as a span of x and a span of y."""
    across, down = seams_of(programs)
    return [(span, other) for span in spans_of(0, across) for other in spans_of(1, down)]


def point_in(field, part):
    """A point in a field, by parts of its sides: no three of these points lie in one line, if both have a length."""
    told = []
    for (_, begin, length, common), times in zip(field, (part, part * part)):
        told.append((begin * times + length, common * times))
    return tuple(told)
