"""Books: how kinds of cells are drawn, and what they draw at a depth."""

from selfdrawn.checks import is_kind_name, is_whole_in
from selfdrawn.errors import BadBook, BadName, BadNumber
from selfdrawn.grids import block_cells
from selfdrawn.motions import cell_under, joint_motion

SIDES = {"plane": 2, "line": 1}
BASES = {"2": 2, "3": 3, "4": 4}
BLANK_WORD = "."
FULL_WORD = "#"
# For the sides of a book, the motions that a word can tell: 0 is never written.
MOTIONS_TOLD = {1: ("1",), 2: ("1", "2", "3", "4", "5", "6", "7")}
MOST_KINDS = 200
# For each base N the greatest depth with N ** depth at most 32.
DEEPEST = {2: 5, 3: 3, 4: 2}


def told_head(line):
    """The sides and the base that the first line of a book tells."""
    words = line.split(" ")
    if len(words) != 2 or words[0] not in SIDES or words[1] not in BASES:
        raise BadBook(1)
    return SIDES[words[0]], BASES[words[1]]


def told_word(word, sides):
    """What a word of a row tells: (name, motion), or (word, 0) of a blank or full cell; None if it is no word."""
    if word in (BLANK_WORD, FULL_WORD):
        return word, 0
    name, slash, motion = word.partition("/")
    if not is_kind_name(name):
        return None
    if not slash:
        return name, 0
    return (name, int(motion)) if motion in MOTIONS_TOLD[sides] else None


def told_row(words, sides, base):
    """What the words of a row tell, one for each cell; None if they are no row."""
    row = [told_word(word, sides) for word in words]
    return row if len(row) == base and None not in row else None


def can_be_told(words, names):
    """Whether these words can begin a kind behind the kinds of these names."""
    if len(words) != 2 or words[0] != "kind" or len(names) == MOST_KINDS:
        return False
    return is_kind_name(words[1]) and words[1] not in names


def told_kinds(lines, sides, base):
    """The names of the kinds, and all rows, each as the number of its line and what its words tell."""
    height = base if sides == 2 else 1
    names = []
    rows = []
    for number, line in enumerate(lines[1:], start=2):
        words = line.split(" ")
        if len(rows) == height * len(names):
            if not can_be_told(words, names):
                raise BadBook(number)
            names.append(words[1])
        else:
            row = told_row(words, sides, base)
            if row is None:
                raise BadBook(number)
            rows.append((number, row))
    if not names or len(rows) < height * len(names):
        raise BadBook(len(lines) + 1)
    return names, rows


def drawn_row(number, row, kinds):
    """The cells of a row, the names in it led to the numbers of their kinds."""
    drawn = []
    for name, motion in row:
        if name == BLANK_WORD:
            drawn.append(None)
        elif name == FULL_WORD:
            drawn.append("full")
        elif name in kinds:
            drawn.append((kinds[name], motion))
        else:
            raise BadBook(number)
    return drawn


def drawn_blocks(names, rows):
    """For each kind the tuple of the cells of its block, row by row."""
    kinds = {name: kind for kind, name in enumerate(names)}
    blocks = [[] for _ in names]
    height = len(rows) // len(names)
    for index, (number, row) in enumerate(rows):
        blocks[index // height].extend(drawn_row(number, row, kinds))
    return tuple([tuple(block) for block in blocks])


class Book:
    """How the cells of each of its kinds are drawn, read from a text."""

    def __init__(self, text):
        if not isinstance(text, str):
            raise BadBook(0)
        lines = text.split("\n")
        sides, base = told_head(lines[0])
        names, rows = told_kinds(lines, sides, base)
        self.text = text
        self.sides = sides
        self.base = base
        self.names = tuple(names)
        self.blocks = drawn_blocks(names, rows)

    def __len__(self):
        return len(self.names)

    def __contains__(self, x):
        return isinstance(x, str) and x in self.names

    def __eq__(self, other):
        return isinstance(other, Book) and self.text == other.text


def cell_within(cell, part, base):
    """The cell of the next depth that is this part of a cell."""
    return tuple([base * place + step for place, step in zip(cell, part)])


def what_under(sides, drawn, motion):
    """What draws a cell that a block draws so, where the block is drawn in a motion."""
    if drawn == "full":
        return drawn
    kind, inner = drawn
    return kind, joint_motion(sides, inner, motion)


def cut_cell(book, cell, what):
    """The cells, not blank, into which a cell is cut, each with what draws it."""
    parts = block_cells(book.sides, book.base)
    if what == "full":
        return [(cell_within(cell, part, book.base), "full") for part in parts]
    kind, motion = what
    cut = []
    for part, drawn in zip(parts, book.blocks[kind]):
        if drawn is not None:
            moved = cell_under(book.sides, book.base, motion, part)
            cut.append((cell_within(cell, moved, book.base), what_under(book.sides, drawn, motion)))
    return cut


def drawn_cells(book, name, depth):
    """The cells of this depth that are not blank, the kind being drawn, each with what draws it."""
    if name not in book:
        raise BadName(name)
    if not is_whole_in(depth, 0, DEEPEST[book.base]):
        raise BadNumber(depth)
    drawn = [((0,) * book.sides, (book.names.index(name), 0))]
    for _ in range(depth):
        drawn = [pair for cell, what in drawn for pair in cut_cell(book, cell, what)]
    return tuple(sorted(drawn, key=lambda told: told[0]))
