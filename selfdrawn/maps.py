"""Maps that lead points of what a step makes to points of what it is made of, number by number.

A number on the way, (axis, many, more, low), is (many * v + more) / low in lowest terms: v is the x of a point for
axis 0, its y for axis 1. If many is 0, it is the same for all points, and its axis is 0. A pair of such numbers, for
x and for y, tells where points are led.
"""

from math import gcd

from selfdrawn.motions import PLANE_MOTIONS, back_motion

# The numbers x and y themselves.
OWN = ((0, 1, 0, 1), (1, 1, 0, 1))
# What these make is cut off outside of the unit square.
CUT = ("moved", "lesser")


def number_led(axis, many, more, low):
    """The number (many * v + more) / low, in lowest terms."""
    common = gcd(gcd(many, more), low)
    return (axis if many else 0), many // common, more // common, low // common


def fixed(fraction):
    """The number that is this fraction for all points."""
    top, low = fraction
    return number_led(0, 0, top, low)


def turned_back(pair, motion):
    """The point that the motion leads to a point."""
    told = []
    for start, mirrored in PLANE_MOTIONS[back_motion(2, motion)]:
        axis, many, more, low = pair[start]
        told.append((axis, -many, low - more, low) if mirrored else pair[start])
    return tuple(told)


def moved_back(number, by):
    """A number less a fraction."""
    axis, many, more, low = number
    top, below = by
    return number_led(axis, many * below, more * below - top * low, low * below)


def drawn_up(number, times, place):
    """A number so many times, less a place."""
    axis, many, more, low = number
    return number_led(axis, times * many, times * more - place * low, low)


def drawn_down(number, times, place):
    """A number and a place, so many times less."""
    axis, many, more, low = number
    return number_led(axis, many, more + place * low, times * low)


def led_by(step, pair):
    """Where a step, (word, name, numbers ..), other than joined and met, leads a point down."""
    if step[0] == "turned":
        return turned_back(pair, step[2])
    if step[0] == "moved":
        return tuple([moved_back(number, by) for number, by in zip(pair, step[2:])])
    if step[0] == "lesser":
        return tuple([drawn_up(number, step[2], place) for number, place in zip(pair, step[3:])])
    return tuple([drawn_down(number, step[2], place) for number, place in zip(pair, step[3:])])


def lies_within(pair, point):
    """Whether the point to which this point, two fractions, is led lies in the unit square."""
    for axis, many, more, low in pair:
        top, below = point[axis]
        if not 0 <= many * top + more * below <= low * below:
            return False
    return True
