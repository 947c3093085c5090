"""Journals: texts of all that a desk holds, written and read."""

from selfdrawn.checks import is_name, is_whole_in
from selfdrawn.deeds import done, told_deed
from selfdrawn.desk import desk_with
from selfdrawn.errors import BadJournal, DrawError
from selfdrawn.steps import told_whole

HEADS = {"desk 2": 2, "desk 3": 3, "desk 4": 4}


def journal(desk):
    """The journal of a desk."""
    lines = [f"desk {desk.base}", *desk.deeds, f"place {desk.place}"]
    for name in desk.marks:
        lines.append(f"mark {name}")
        lines.extend(desk.marked_deeds(name))
    return "\n".join(lines)


def deeds_from(base, lines, at):
    """The deeds that the lines from this one on tell, up to the first one that is none."""
    entries = {}
    deeds = []
    for number, line in enumerate(lines[at:], start=at + 1):
        told = told_deed(base, line)
        if told is None:
            break
        try:
            entries = done(base, entries, told)
        except DrawError:
            raise BadJournal(number) from None
        deeds.append(line)
    return tuple(deeds)


def told_place(lines, at, many):
    """The place that a line tells behind so many deeds."""
    if at == len(lines):
        raise BadJournal(at + 1)
    word, blank, told = lines[at].partition(" ")
    place = told_whole(told)
    if word != "place" or not is_whole_in(place, 0, many):
        raise BadJournal(at + 1)
    return place


def told_mark(lines, at, names):
    """The name of the mark that a line tells behind marks of these names, which ascend."""
    word, blank, name = lines[at].partition(" ")
    if word != "mark" or not is_name(name) or (names and name <= names[-1]):
        raise BadJournal(at + 1)
    return name


def read_journal(text):
    """The desk whose journal this text is."""
    if not isinstance(text, str):
        raise BadJournal(0)
    lines = text.split("\n")
    if lines[0] not in HEADS:
        raise BadJournal(1)
    base = HEADS[lines[0]]
    deeds = deeds_from(base, lines, 1)
    at = 1 + len(deeds)
    place = told_place(lines, at, len(deeds))
    at += 1
    marked = {}
    while at < len(lines):
        name = told_mark(lines, at, list(marked))
        marked[name] = deeds_from(base, lines, at + 1)
        at += 1 + len(marked[name])
    return desk_with(base, deeds, place, marked)
