"""Counts: cells that meet a picture, its area, how many points it has, and all of them if they are few."""

from selfdrawn.addresses import addresses_of, many_points, word_for_many
from selfdrawn.areas import area_of_form
from selfdrawn.checks import is_whole_in
from selfdrawn.errors import BadBox, BadNumber, NotFew, TooMany
from selfdrawn.grids import block_cells, power
from selfdrawn.pictures import DEEPEST_ASKED
from selfdrawn.places import place_of_figures
from selfdrawn.tables import EMPTY

MOST_POINTS = 100


def is_corner(value, sides, size):
    """Whether value is a tuple of as many integers from 0 to size as there are sides."""
    if not isinstance(value, tuple) or len(value) != sides:
        return False
    return all([is_whole_in(part, 0, size) for part in value])


def check_box(sides, size, low, high):
    """Refuse corners that cut no box out of the cells."""
    if not is_corner(low, sides, size):
        raise BadBox(low)
    if not is_corner(high, sides, size) or not all([begin <= end for begin, end in zip(low, high)]):
        raise BadBox(high)


def span_within(span, place, size):
    """What the stretch at this place, so wide, has of a span, counted from its own begin; None for nothing."""
    low = max(span[0] - place * size, 0)
    high = min(span[1] - place * size, size)
    return (low, high) if low < high else None


def spans_within(spans, cell, size):
    """What a cell, so wide, has of the spans of a box; None for nothing."""
    within = tuple([span_within(span, place, size) for span, place in zip(spans, cell)])
    return None if None in within else within


def counts_within(form, cells, size, many):
    """How many cells of the next depth, so wide, have each number, by the spans of the box within them."""
    told = {}
    for spans, numbers in many.items():
        for at, cell in enumerate(cells):
            within = spans_within(spans, cell, size)
            if within is not None:
                found = told.setdefault(within, {})
                for number, times in numbers.items():
                    part = form[number][at]
                    if part != EMPTY:
                        found[part] = found.get(part, 0) + times
    return told


def count_cells(picture, depth, low, high):
    """How many cells of this depth, from the corner low on and ahead of the corner high, meet the picture."""
    if not is_whole_in(depth, 0, DEEPEST_ASKED):
        raise BadNumber(depth)
    size = power(picture.base, depth)
    check_box(picture.sides, size, low, high)
    if not picture.form or not all([begin < end for begin, end in zip(low, high)]):
        return 0
    cells = block_cells(picture.sides, picture.base)
    # Cells within which the box has the same spans are counted together: there are few such spans at each depth.
    many = {tuple(zip(low, high)): {0: 1}}
    for _ in range(depth):
        size = size // picture.base
        many = counts_within(picture.form, cells, size, many)
    return sum([sum(list(numbers.values())) for numbers in many.values()])


def area_of(picture):
    """The area of a picture, or the length of a line, as a fraction."""
    return area_of_form(picture.form)


def how_many(picture):
    """How many points a picture has."""
    word = word_for_many(picture.form)
    return (word, many_points(picture)) if word == "some" else (word,)


def in_sequence(points):
    """Points, each the figures (ahead, ring) of its numbers, as their numbers ascend."""
    lengths = [(len(ahead), len(ring)) for point in points for ahead, ring in point]
    # Numbers the figures of which are the same so far are the same.
    most = max([ahead for ahead, _ in lengths]) + 2 * max([ring for _, ring in lengths])
    told = []
    for point in points:
        key = []
        for ahead, ring in point:
            figures = ahead + ring * (most // len(ring) + 1)
            key.append(figures[:most])
        told.append((key, point))
    return [point for _, point in sorted(told, key=lambda pair: pair[0])]


def all_points(picture):
    """The tuple of all points of a picture, by their numbers, ascending."""
    word = word_for_many(picture.form)
    if word == "none":
        return ()
    if word != "some":
        raise NotFew(word)
    if many_points(picture) > MOST_POINTS:
        raise TooMany(MOST_POINTS)
    base = picture.base
    points = in_sequence(addresses_of(picture))
    return tuple([tuple([place_of_figures(base, figures) for figures in point]) for point in points])
