"""Areas of pictures, by the equations that the areas of their contents have."""

from math import gcd

from selfdrawn.tables import EMPTY, leading_to

# Beside numbers, the key of what is told without them.
ALONE = -1


def equation_of(row, full, unknown):
    """The equation of a number: how often its area is counted, and the areas that make this, by their numbers.

    Full is the number of the full square, whose area is 1; numbers that are not unknown have no area.
    """
    parts = {ALONE: row.count(full)}
    for part in row:
        if part not in (EMPTY, full) and unknown[part]:
            parts[part] = parts.get(part, 0) + 1
    return len(row), parts


def without_own(number, times, parts):
    """The equation of a number without its own area among those that make it, and with small figures."""
    left = {part: many for part, many in parts.items() if part != number}
    times = times - parts.get(number, 0)
    common = times
    for many in left.values():
        common = gcd(common, many)
    return times // common, {part: many // common for part, many in left.items()}


def led_back(number, equation, other, own):
    """The equation of a number in which that of another one, own, has been put in the place of its area."""
    times, parts = equation
    others, told = own
    many = parts[other]
    joined = {part: others * count for part, count in parts.items() if part != other}
    for part, count in told.items():
        joined[part] = joined.get(part, 0) + many * count
    return without_own(number, others * times, joined)


def area_of_form(form):
    """The area of the picture with this form, as a fraction."""
    full = [number for number, row in enumerate(form) if (number,) * len(row) == row]
    unknown = leading_to(form, full)
    if not form or not unknown[0]:
        return 0, 1
    if full == [0]:
        return 1, 1
    equations = {}
    for number, row in enumerate(form):
        if unknown[number] and number != full[0]:
            times, parts = equation_of(row, full[0], unknown)
            equations[number] = without_own(number, times, parts)
    # From the last number on, each is told by lesser ones and put in its place, until the first one stands alone.
    for other in range(len(form) - 1, 0, -1):
        for number in range(other):
            if number in equations and other in equations[number][1]:
                equations[number] = led_back(number, equations[number], other, equations[other])
    # What is left is in lowest terms.
    times, parts = equations[0]
    return parts[ALONE], times
