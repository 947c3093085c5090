"""The errors of the package: each keeps its only argument as its value."""


class DrawError(ValueError):
    """The error from which all others derive."""

    def __init__(self, value):
        self.value = value


class BadBook(DrawError):
    """A text that is no book: the number of the line that is wrong, or 0."""


class BadMotion(DrawError):
    """A value that is not a motion for these sides."""


class BadPoint(DrawError):
    """A value that is not a point as it is asked for."""


class BadCell(DrawError):
    """A value that is not a cell as it is asked for."""


class BadName(DrawError):
    """A value that is not a name as it is asked for."""


class BadNumber(DrawError):
    """A value that is no integer as it is asked for."""


class BadForm(DrawError):
    """A value that is not the form of a picture."""


class BadFraction(DrawError):
    """A value that is not a fraction as it is asked for."""


class BadPlace(DrawError):
    """A value that is not the place of a number."""


class Unlike(DrawError):
    """Pictures that have to be alike in kind and are not: sides and base of the later one."""


class BadPictures(DrawError):
    """A value that is not a tuple of pictures as it is asked for."""


class BadSides(DrawError):
    """A picture with the wrong sides: its sides."""


class NoBase(DrawError):
    """A picture of a base that has no other base: this base."""


class BadMove(DrawError):
    """A value that is not a move of the picture."""


class BadAxis(DrawError):
    """A value that is not an axis."""


class BadBox(DrawError):
    """A value that is not a corner of a box of cells."""


class NotFew(DrawError):
    """A picture with more than finitely many points: the word for how many."""


class TooMany(DrawError):
    """More of something than the number that is told."""


class BadOffset(DrawError):
    """A value that is not an offset to a square beside."""


class BadProgram(DrawError):
    """A text that is no program: the number of the line that is wrong, or 0."""


class BadLots(DrawError):
    """A value that is not a tuple of lots of points as it is asked for."""


class OtherInputs(DrawError):
    """Programs with different inputs: the inputs of the other one."""


class Held(DrawError):
    """A name that is held already by something else."""


class BadWords(DrawError):
    """A value that is not the words of a block."""


class NoKind(DrawError):
    """A value that is not the name of a kind."""


class Full(DrawError):
    """A desk that is full: how many entries it has."""


class BadWord(DrawError):
    """A value that is not a word of a block."""


class BadLine(DrawError):
    """A value that is not the right side of a line of a program."""


class NoName(DrawError):
    """A value that is not the name of an entry."""


class Ring(DrawError):
    """A line that would hang on itself: the names on the way."""


class InUse(DrawError):
    """An entry that others name: their names."""


class BadDeed(DrawError):
    """A value that is not the text of a deed."""


class NoLine(DrawError):
    """A value that is not the name of a line."""


class TooFar(DrawError):
    """More steps than there are: how many there are."""


class NoMark(DrawError):
    """A value that is not the name of a mark."""


class BadJournal(DrawError):
    """A text that is no journal: the number of the line that is wrong, or 0."""
