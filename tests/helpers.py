"""What several tests need."""

from fractions import Fraction

from selfdrawn.errors import DrawError

# The table of section 4, as the document writes it.
PLANE_TABLE = (
    lambda x, y: (x, y),
    lambda x, y: (1 - y, x),
    lambda x, y: (1 - x, 1 - y),
    lambda x, y: (y, 1 - x),
    lambda x, y: (1 - x, y),
    lambda x, y: (1 - y, 1 - x),
    lambda x, y: (x, 1 - y),
    lambda x, y: (y, x),
)
LINE_TABLE = (
    lambda x: (x,),
    lambda x: (1 - x,),
)
TABLES = {1: LINE_TABLE, 2: PLANE_TABLE}
MOTION_PAIRS = [(sides, motion) for sides in (1, 2) for motion in range(len(TABLES[sides]))]
HUGE = 10 ** 299 + 7


def moved_numbers(sides, motion, numbers):
    """The numbers of a point where the document's table moves it."""
    return TABLES[sides][motion](*numbers)


def moved_cell(sides, size, motion, cell):
    """The cell to which the table moves the middle of a cell."""
    middle = [Fraction(2 * place + 1, 2 * size) for place in cell]
    return tuple(int(number * size) for number in moved_numbers(sides, motion, middle))


def error_of(call, *arguments, **named):
    """The error of the package that a call raises, or None."""
    try:
        call(*arguments, **named)
    except DrawError as error:
        return error
    return None


def check_refused(case, error, value, call, *arguments):
    """Check that a call raises just this error, with just this value."""
    raised = error_of(call, *arguments)
    case.assertIs(type(raised), error, (call, arguments, raised))
    case.assertIs(raised.value, value, (call, arguments))
