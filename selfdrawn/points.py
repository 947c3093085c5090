"""Points: by fractions and by places; which a picture has, and its least and greatest ones."""

from selfdrawn.checks import is_base, is_low_fraction, is_low_point, is_low_point_of_any, is_whole_in
from selfdrawn.ends import first_figures, least_figures
from selfdrawn.errors import BadFraction, BadNumber, BadPlace, BadPoint
from selfdrawn.grids import cell_index, crossed, power
from selfdrawn.making import turned_picture
from selfdrawn.pictures import DEEPEST_ASKED, rows_of
from selfdrawn.places import is_place, mirrored_figures, number_of_figures, place_of_figures, place_of_number
from selfdrawn.tables import EMPTY

# For the sides of a picture, the motion that moves each number to 1 less it.
OPPOSITE = {1: 1, 2: 2}
# The motion of a plane that exchanges x and y.
EXCHANGED = 7


def check_base(base):
    """Refuse a base that no picture has."""
    if not is_base(base):
        raise BadNumber(base)


def place_of(base, fraction):
    """The place of the number that the fraction tells."""
    check_base(base)
    if not is_low_fraction(fraction):
        raise BadFraction(fraction)
    top, low = fraction
    return place_of_number(base, top, low)


def fraction_of(base, place):
    """The fraction of the number whose place this is."""
    check_base(base)
    if not is_place(base, place):
        raise BadPlace(place)
    ahead, ring = place
    return number_of_figures(base, ahead, ring)


def figure_and_rest(base, top, low):
    """A first figure of top / low, and the top of what is left behind it, drawn up."""
    figure = min(base * top // low, base - 1)
    return figure, base * top - figure * low


def has_point(picture, point):
    """Whether the point is in the picture."""
    if not is_low_point(point, picture.sides):
        raise BadPoint(point)
    rows = rows_of(picture)
    lows = [low for _, low in point]
    number = 0
    tops = tuple([top for top, _ in point])
    seen = set()
    # Contents hold their rims, so any figures of the point will do.
    while number != EMPTY and (number, tops) not in seen:
        seen.add((number, tops))
        steps = [figure_and_rest(picture.base, top, low) for top, low in zip(tops, lows)]
        number = rows[number][cell_index([figure for figure, _ in steps], picture.base)]
        tops = tuple([rest for _, rest in steps])
    return number != EMPTY


def stretches_with(size, fraction):
    """The numbers of those, among so many equal closed stretches, that contain the number, ascending."""
    top, low = fraction
    place, rest = divmod(size * top, low)
    told = [place] if rest else [place - 1, place]
    return [one for one in told if 0 <= one < size]


def point_cells(base, depth, point):
    """The ascending tuple of the cells of this depth that contain the point."""
    check_base(base)
    if not is_whole_in(depth, 0, DEEPEST_ASKED):
        raise BadNumber(depth)
    if not is_low_point_of_any(point):
        raise BadPoint(point)
    size = power(base, depth)
    return tuple(sorted(crossed([stretches_with(size, part) for part in point])))


def first_point(picture):
    """The places of the least x of all points and, in a plane, of the least y with it; None for no points."""
    if not picture.form:
        return None
    return tuple([place_of_figures(picture.base, figures) for figures in first_figures(picture)])


def last_point(picture):
    """The places of the greatest x of all points and, in a plane, of the greatest y with it; None for no points."""
    if not picture.form:
        return None
    base = picture.base
    told = first_figures(turned_picture(picture, OPPOSITE[picture.sides]))
    return tuple([place_of_figures(base, mirrored_figures(base, figures)) for figures in told])


def least_and_greatest(picture):
    """The places of the least and of the greatest x of all points."""
    base = picture.base
    least = least_figures(picture.form, base)
    turned = turned_picture(picture, OPPOSITE[picture.sides])
    greatest = mirrored_figures(base, least_figures(turned.form, base))
    return place_of_figures(base, least), place_of_figures(base, greatest)


def bounding_box(picture):
    """For each side the pair of the places of the least and of the greatest number there; None for no points."""
    if not picture.form:
        return None
    if picture.sides == 1:
        return (least_and_greatest(picture),)
    return least_and_greatest(picture), least_and_greatest(turned_picture(picture, EXCHANGED))
