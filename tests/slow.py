"""Slow checks of pictures, from the blocks of books and the document's words alone: no forms are read here."""

from fractions import Fraction
from itertools import product

from tests.helpers import TABLES, moved_cell, moved_numbers


def joint(sides, one, other):
    """The motion as one and then other, found in the document's table."""
    numbers = (Fraction(1, 5), Fraction(1, 3))[:sides]
    there = moved_numbers(sides, other, moved_numbers(sides, one, numbers))
    return [motion for motion in range(len(TABLES[sides])) if moved_numbers(sides, motion, numbers) == there][0]


def lasting(ways):
    """Those keys of ways, a dict of lists of keys, from which some endless way leads on."""
    left = set(ways)
    while True:
        gone = {key for key in left if not any(end in left for end in ways[key])}
        if not gone:
            return left
        left -= gone


def spread(start, ways_from):
    """The dict of the ways from all that comes from start."""
    ways = {}
    waiting = [start]
    while waiting:
        key = waiting.pop()
        if key not in ways:
            ways[key] = ways_from(key)
            waiting.extend(ways[key])
    return ways


# For each base how many figures ahead and in the ring a number with low at most 60 can have.
SHAPES = {
    base: [(ahead, ring) for ahead in range(6) for ring in range(1, 6) if base ** ahead * (base ** ring - 1) <= 60]
    for base in (2, 3, 4)
}


class Drawing:
    """What a book draws: the parts of what draws a cell, worked out once each."""

    def __init__(self, book):
        self.book = book
        self.sides = book.sides
        self.base = book.base
        self.cells = list(product(range(book.base), repeat=book.sides))
        self.held = {"full": {cell: "full" for cell in self.cells}}

    def parts(self, what):
        """The dict of the cells that are not blank, with what draws them."""
        if what not in self.held:
            kind, motion = what
            told = {}
            for index, drawn in enumerate(self.book.blocks[kind]):
                place = (index % self.base, index // self.base)[:self.sides]
                if drawn is not None:
                    end = moved_cell(self.sides, self.base, motion, place)
                    told[end] = drawn if drawn == "full" else (drawn[0], joint(self.sides, drawn[1], motion))
            self.held[what] = told
        return self.held[what]

    def ways_to(self, state):
        """All that is drawn in cells of depth 1 that hold a point, with the point drawn up."""
        what, point = state
        told = []
        for cell, drawn in self.parts(what).items():
            place = tuple(self.base * number - step for number, step in zip(point, cell))
            if all(0 <= number <= 1 for number in place):
                told.append((drawn, place))
        return told

    def has(self, name, point):
        """Whether the picture of a kind has the point, a tuple of Fractions, by any of its addresses."""
        start = ((self.book.names.index(name), 0), tuple(point))
        return start in lasting(spread(start, self.ways_to))

    def ways_along(self, state):
        """All that is drawn in cells of depth 1 that the upright line of an x passes, with their rows and the x there."""
        what, number = state
        told = []
        for cell, drawn in self.parts(what).items():
            place = self.base * number - cell[0]
            if 0 <= place <= 1:
                told.append((cell[1], (drawn, place)))
        return told

    def rows_with(self, name, number, depth):
        """The rows of the cells of this depth in which points with this x are drawn, of a plane."""
        start = ((self.book.names.index(name), 0), number)
        ways = spread(start, lambda state: [end for _, end in self.ways_along(state)])
        there = lasting(ways)
        rows = {(0, start)} if start in there else set()
        for _ in range(depth):
            rows = {(self.base * row + step, end) for row, state in rows for step, end in self.ways_along(state) if end in there}
        return sorted({row for row, _ in rows})

    def columns(self, name, depth):
        """The columns of the cells of this depth in which points are drawn."""
        start = (self.book.names.index(name), 0)
        ways = spread(start, lambda what: list(self.parts(what).values()))
        there = lasting(ways)
        told = {(0, start)} if start in there else set()
        for _ in range(depth):
            told = {
                (self.base * column + cell[0], drawn)
                for column, what in told for cell, drawn in self.parts(what).items() if drawn in there
            }
        return sorted({column for column, _ in told})

    def likely_points(self, draw, name, many):
        """Points with lows of at most 60 the figures of which, told once, lead to cells that are not blank."""
        found = []
        for _ in range(many):
            ahead, ring = draw.choice(SHAPES[self.base])
            what = (self.book.names.index(name), 0)
            cells = []
            while len(cells) < ahead + ring and self.parts(what):
                cell, what = draw.choice(sorted(self.parts(what).items(), key=str))
                cells.append(cell)
            if len(cells) == ahead + ring:
                places = [[cell[axis] for cell in cells] for axis in range(self.sides)]
                found.append(tuple(number_of(self.base, place[:ahead], place[ahead:]) for place in places))
        return found

    def views_in(self, view):
        """The views in the cells of a cell, row by row; a view tells what is drawn in it and in all beside it."""
        held = dict(view)
        told = []
        if not view:
            return told
        for cell in sorted(self.cells, key=lambda cell: cell[::-1]):
            within = []
            for step in product((-1, 0, 1), repeat=self.sides):
                place = tuple(one + by for one, by in zip(cell, step))
                above = tuple(one // self.base for one in place)
                drawn = self.parts(held[above]).get(tuple(one % self.base for one in place)) if above in held else None
                if drawn is not None:
                    within.append((step, drawn))
            told.append(tuple(within))
        return told

    def form(self, name):
        """The form of the picture of a kind, by all views, told apart row by row."""
        start = (((0,) * self.sides, (self.book.names.index(name), 0)),)
        ways = spread(start, self.views_in)
        there = lasting(ways)
        marks = {view: view in there for view in ways}
        while True:
            told = {view: (marks[view], tuple(marks[part] for part in ways[view])) for view in there}
            numbers = {pair: number for number, pair in enumerate(dict.fromkeys(told.values()), start=1)}
            many = len(set(marks[view] for view in there))
            marks = {view: numbers[told[view]] if view in there else 0 for view in ways}
            if len(numbers) == many:
                return numbered(start, ways, marks)


def number_of(base, ahead, ring):
    """The number that these figures stand for, by the sum of endless powers."""
    number = Fraction(0)
    for place, figure in enumerate(ahead, start=1):
        number += Fraction(figure, base ** place)
    for place, figure in enumerate(ring, start=1):
        number += Fraction(figure, base ** (len(ahead) + place)) * Fraction(base ** len(ring), base ** len(ring) - 1)
    return number


def numbered(start, ways, marks):
    """The rows of numbers in the sequence that section 5 tells; marks tell the same views, 0 the empty ones."""
    if not marks[start]:
        return ()
    views = [start]
    numbers = {marks[start]: 0}
    form = []
    for view in views:
        row = []
        for part in ways[view]:
            if marks[part] and marks[part] not in numbers:
                numbers[marks[part]] = len(views)
                views.append(part)
            row.append(numbers.get(marks[part], -1))
        form.append(tuple(row))
    return tuple(form)
