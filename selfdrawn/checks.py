"""What values have to be: integers, fractions, names, points, cells."""

from math import gcd

RESERVED = ("plane", "line", "kind")
MOST_LETTERS = 8
# Points that are passed in have no low above this one.
MOST_LOW = 60


def is_whole(value):
    """Whether value is an integer; True and False are none."""
    return isinstance(value, int) and not isinstance(value, bool)


def is_whole_in(value, least, most):
    """Whether value is an integer from least to most."""
    return is_whole(value) and least <= value <= most


def is_fraction(value):
    """Whether value is a pair (top, low) in lowest terms, low from 1 on."""
    if not isinstance(value, tuple) or len(value) != 2:
        return False
    top, low = value
    return is_whole(top) and is_whole(low) and low >= 1 and gcd(top, low) == 1


def is_fraction_in(value, least, most):
    """Whether value is a fraction from least to most, which are whole numbers."""
    return is_fraction(value) and least * value[1] <= value[0] <= most * value[1]


def is_name(value):
    """Whether value is a string of one to eight letters a to z."""
    if not isinstance(value, str) or not 1 <= len(value) <= MOST_LETTERS:
        return False
    return all(["a" <= letter <= "z" for letter in value])


def is_kind_name(value):
    """Whether value is a name that a kind can have."""
    return is_name(value) and value not in RESERVED


def is_point(value, sides):
    """Whether value is a tuple of as many fractions from 0 to 1 as there are sides."""
    if not isinstance(value, tuple) or len(value) != sides:
        return False
    return all([is_fraction_in(part, 0, 1) for part in value])


def is_low_fraction(value):
    """Whether value is a fraction from 0 to 1 with low at most 60."""
    return is_fraction_in(value, 0, 1) and value[1] <= MOST_LOW


def is_low_point(value, sides):
    """Whether value is a point with as many fractions as there are sides, each with low at most 60."""
    return is_point(value, sides) and all([is_low_fraction(part) for part in value])


def is_low_point_of_any(value):
    """Whether value is such a point of a plane or of a line."""
    return is_low_point(value, 2) or is_low_point(value, 1)


def is_base(value):
    """Whether value is a base: 2, 3 or 4."""
    return is_whole_in(value, 2, 4)


def is_cell(value, sides, size):
    """Whether value is one of size by size (size) cells: a tuple of as many integers as there are sides."""
    if not isinstance(value, tuple) or len(value) != sides:
        return False
    return all([is_whole_in(part, 0, size - 1) for part in value])
