"""Places: numbers from 0 to 1 written by endless figures, figures ahead and a ring that comes again and again."""

from math import gcd

from selfdrawn.checks import is_whole_in
from selfdrawn.grids import power


def place_of_number(base, top, low):
    """The place of the number top / low."""
    if top == low:
        return (), (base - 1,)
    figures = []
    seen = {}
    rest = top
    while rest not in seen:
        seen[rest] = len(figures)
        figure, rest = divmod(base * rest, low)
        figures.append(figure)
    begin = seen[rest]
    return tuple(figures[:begin]), tuple(figures[begin:])


def number_of_figures(base, ahead, ring):
    """The fraction, in lowest terms, that these figures stand for."""
    top = 0
    for figure in ahead:
        top = base * top + figure
    turn = 0
    for figure in ring:
        turn = base * turn + figure
    rings = power(base, len(ring)) - 1
    top = top * rings + turn
    low = power(base, len(ahead)) * rings
    common = gcd(top, low)
    return top // common, low // common


def place_of_figures(base, figures):
    """The place of the number for which figures, (ahead, ring), stand."""
    ahead, ring = figures
    top, low = number_of_figures(base, ahead, ring)
    return place_of_number(base, top, low)


def mirrored_figures(base, figures):
    """Figures of 1 less the number for which these stand."""
    ahead, ring = figures
    return [base - 1 - figure for figure in ahead], [base - 1 - figure for figure in ring]


def are_figures(base, value):
    """Whether value is a tuple of integers from 0 to base - 1."""
    return isinstance(value, tuple) and all([is_whole_in(figure, 0, base - 1) for figure in value])


def is_told_twice(ring):
    """Whether the ring is a shorter one told again and again."""
    many = len(ring)
    return any([ring[:part] * (many // part) == ring for part in range(1, many) if many % part == 0])


def is_place(base, value):
    """Whether value is the place of some number at this base."""
    if not isinstance(value, tuple) or len(value) != 2:
        return False
    ahead, ring = value
    if not are_figures(base, ahead) or not are_figures(base, ring) or not ring:
        return False
    if is_told_twice(ring):
        return False
    if ring == (base - 1,):
        return ahead == ()
    # A figure that stands at the end of both could be drawn into the ring.
    return ahead == () or ahead[-1] != ring[-1]
