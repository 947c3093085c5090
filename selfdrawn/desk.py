"""A desk: entries that are drawn, changed, let and removed, with ways back, marks and tries."""

from selfdrawn.checks import is_base, is_name, is_whole
from selfdrawn.deeds import changed, check_held, done, drawn, entries_behind, lined, removed, told_deed
from selfdrawn.entries import hanging_on, kinds_among, lines_among, picture_for, program_for
from selfdrawn.errors import BadDeed, BadName, BadNumber, Held, NoLine, NoMark, TooFar


def check_many(many, most):
    """Refuse what is no number of deeds, and more of them than there are."""
    if not is_whole(many) or many < 0:
        raise BadNumber(many)
    if many > most:
        raise TooFar(most)


class Desk:
    """The entries behind the deeds ahead of its place."""

    def __init__(self, base):
        if not is_base(base):
            raise BadNumber(base)
        self.base = base
        self._hold((), 0, {}, {})

    def _hold(self, deeds, place, entries, marked):
        """Stand at a place of these deeds, with the entries there, and with marks of the deeds that are told.

        Neither of the dicts is changed later on, so that they can be taken up again.
        """
        self.deeds = deeds
        self.place = place
        self.marks = tuple(sorted(marked))
        self.kinds = kinds_among(entries)
        self.lines = lines_among(entries)
        self._entries = entries
        self._marked = marked

    def _do(self, text, entries):
        """Hold a deed behind those ahead of the place; those behind the place go."""
        deeds = self.deeds[:self.place] + (text,)
        self._hold(deeds, len(deeds), entries, self._marked)

    def _stand(self, deeds, place):
        """Stand at a place of these deeds."""
        self._hold(deeds, place, entries_behind(self.base, deeds[:place]), self._marked)

    def __len__(self):
        return len(self._entries)

    def __contains__(self, x):
        return isinstance(x, str) and x in self._entries

    def __eq__(self, other):
        if not isinstance(other, Desk):
            return False
        if self.base != other.base or self.deeds != other.deeds:
            return False
        return self.place == other.place and self._marked == other._marked

    def draw(self, name, words):
        """Let a kind have this block."""
        entries = drawn(self.base, self._entries, name, words)
        self._do(" ".join(("draw", name) + words), entries)

    def change(self, name, cell, word):
        """Let the block of a kind have this word in this cell."""
        entries = changed(self.base, self._entries, name, cell, word)
        self._do(f"change {name} {cell[0]} {cell[1]} {word}", entries)

    def let(self, name, line):
        """Let a line be this one."""
        entries = lined(self._entries, name, line)
        self._do(f"let {name} {line}", entries)

    def remove(self, name):
        """Let an entry go."""
        entries = removed(self._entries, name)
        self._do(f"remove {name}", entries)

    def deed(self, text):
        """Do the deed that a text tells."""
        told = told_deed(self.base, text)
        if told is None:
            raise BadDeed(text)
        self._do(text, done(self.base, self._entries, told))

    def entry(self, name):
        """The tuple of the words of a kind, or the string of a line."""
        check_held(self._entries, name)
        return self._entries[name]

    def picture(self, name):
        """The picture of an entry."""
        check_held(self._entries, name)
        return picture_for(self.base, self._entries, name)

    def hanging(self, name):
        """The ascending tuple of a name and of all names that hang on it."""
        check_held(self._entries, name)
        return hanging_on(self._entries, name)

    def program(self, name):
        """The text of the program of a line."""
        if not isinstance(name, str) or name not in self.lines:
            raise NoLine(name)
        return program_for(self._entries, name)

    def back(self, many):
        """Go back by so many deeds."""
        check_many(many, self.place)
        self._stand(self.deeds, self.place - many)

    def on(self, many):
        """Go on by so many deeds."""
        check_many(many, len(self.deeds) - self.place)
        self._stand(self.deeds, self.place + many)

    def mark(self, name):
        """Mark the deeds ahead of the place."""
        if not is_name(name):
            raise BadName(name)
        if name in self._marked:
            raise Held(name)
        marked = {other: deeds for other, deeds in self._marked.items()}
        marked[name] = self.deeds[:self.place]
        self._hold(self.deeds, self.place, self._entries, marked)

    def marked_deeds(self, name):
        """The deeds that a mark marks."""
        if not isinstance(name, str) or name not in self._marked:
            raise NoMark(name)
        return self._marked[name]

    def to(self, name):
        """Hold the deeds that a mark marks, and stand behind them."""
        deeds = self.marked_deeds(name)
        self._stand(deeds, len(deeds))

    def tried(self, look, *, keep=False):
        """What a function returns that is called with the desk, which is then as before, unless keep is True."""
        deeds, place, marks = self.deeds, self.place, self.marks
        kinds, lines = self.kinds, self.lines
        entries, marked = self._entries, self._marked
        kept = None
        try:
            told = look(self)
            if keep is True:
                kept = keep
        finally:
            if kept is None:
                self.deeds, self.place, self.marks = deeds, place, marks
                self.kinds, self.lines = kinds, lines
                self._entries, self._marked = entries, marked
        return told

    def copy(self):
        """A desk that is equal to this one."""
        desk = Desk(self.base)
        desk._hold(self.deeds, self.place, self._entries, self._marked)
        return desk


def desk_with(base, deeds, place, marked):
    """The desk with these deeds at this place, and with marks of the deeds that are told."""
    desk = Desk(base)
    desk._hold(deeds, place, entries_behind(base, deeds[:place]), marked)
    return desk
