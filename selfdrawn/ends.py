"""The least and the greatest numbers that the points of a picture have, as figures."""

from selfdrawn.tables import EMPTY, explored, form_of


def ways_by_column(form, base):
    """For each number of a form its ways on: the column of a cell and the number there."""
    return [[(at % base, part) for at, part in enumerate(row) if part != EMPTY] for row in form]


def ranks_of(ways):
    """For each number its rank by the least figures that lead on from it, told apart as far as it takes."""
    ranks = [0] * len(ways)
    many = 1
    while True:
        least = [min([(figure, ranks[part]) for figure, part in way]) for way in ways]
        told = {pair: rank for rank, pair in enumerate(sorted(set(least)))}
        ranks = [told[pair] for pair in least]
        if len(told) == many:
            return ranks
        many = len(told)


def least_figures(form, base):
    """Figures, (ahead, ring), of the least x of all points of a picture that is not empty."""
    ways = ways_by_column(form, base)
    ranks = ranks_of(ways)
    figures = []
    seen = {}
    number = 0
    while number not in seen:
        seen[number] = len(figures)
        figure, _, number = min([(figure, ranks[part], part) for figure, part in ways[number]])
        figures.append(figure)
    begin = seen[number]
    return figures[:begin], figures[begin:]


def cut_along(form, base, figures):
    """The form of the line of all y of points of a plane whose x has these figures.

    Any figures of x will do: a closed column holds all points with an x on its sides.
    """
    ahead, ring = figures
    columns = ahead + ring

    def parts(state):
        number, at = state
        behind = at + 1 if at + 1 < len(columns) else len(ahead)
        column = form[number][columns[at]::base]
        return [EMPTY if part == EMPTY else (part, behind) for part in column]

    return form_of(explored((0, 0), parts))


def first_figures(picture):
    """For each side the figures of the first point of a picture that is not empty."""
    first = least_figures(picture.form, picture.base)
    if picture.sides == 1:
        return [first]
    line = cut_along(picture.form, picture.base, first)
    return [first, least_figures(line, picture.base)]
