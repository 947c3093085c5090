"""Entries of a desk: dicts of what is held under each name, the words of a kind as a tuple, or a line as a string."""

from selfdrawn.books import BLANK_WORD, FULL_WORD, Book, told_word
from selfdrawn.errors import TooMany
from selfdrawn.pictures import Picture
from selfdrawn.programs import MOST_INPUTS, MOST_LINES
from selfdrawn.steps import made_by, names_in_step, told_step


def names_in_words(words):
    """The names in words of blocks."""
    told = [told_word(word, 2)[0] for word in words]
    return [name for name in told if name not in (BLANK_WORD, FULL_WORD)]


def names_in(entry):
    """The names in an entry, in the sequence in which they stand."""
    if isinstance(entry, str):
        return list(names_in_step(told_step(entry)))
    return names_in_words(entry)


def kinds_among(entries):
    """The ascending tuple of the names of the kinds."""
    return tuple(sorted([name for name, entry in entries.items() if not isinstance(entry, str)]))


def lines_among(entries):
    """The ascending tuple of the names of the lines."""
    return tuple(sorted([name for name, entry in entries.items() if isinstance(entry, str)]))


def first_unknown(names, known):
    """The first name that is not among those that are known; None if there is none."""
    unknown = [name for name in names if name not in known]
    return unknown[0] if unknown else None


def those_naming(entries, name):
    """The ascending tuple of all other entries that name this one."""
    return tuple(sorted([other for other, entry in entries.items() if other != name and name in names_in(entry)]))


def hanging_on(entries, name):
    """The ascending tuple of a name and of all names that hang on it."""
    found = [name]
    gone = 0
    while gone < len(found):
        near = those_naming(entries, found[gone])
        found.extend([other for other in near if other not in found])
        gone += 1
    return tuple(sorted(found))


def ring_through(entries, name):
    """The shortest tuple from a name on, each naming the next one, the last one it; of several the least one.

    None if it does not hang on itself.
    """
    ways = {name: (name,)}
    reached = [name]
    while reached:
        ending = [ways[end] for end in reached if name in names_in(entries[end])]
        if ending:
            return min(ending)
        least = {}
        for end in reached:
            for other in names_in(entries[end]):
                way = ways[end] + (other,)
                if other not in ways:
                    least[other] = min(way, least.get(other, way))
        for other, way in least.items():
            ways[other] = way
        reached = list(least)
    return None


def lines_for(entries, name):
    """A line and all lines on which it hangs, each behind those that it names, as the least such tuple of names."""
    wanted = [name]
    gone = 0
    while gone < len(wanted):
        near = names_in(entries[wanted[gone]])
        for other in near:
            if isinstance(entries[other], str) and other not in wanted:
                wanted.append(other)
        gone += 1
    placed = []
    while len(placed) < len(wanted):
        left = [line for line in wanted if line not in placed]
        free = [line for line in left if not any([other in left for other in names_in(entries[line])])]
        placed.append(min(free))
    return placed


def program_for(entries, name):
    """The text of a program for a line."""
    lines = lines_for(entries, name)
    if len(lines) > MOST_LINES:
        raise TooMany(MOST_LINES)
    named = [other for line in lines for other in names_in(entries[line]) if other not in lines]
    if len(set(named)) > MOST_INPUTS:
        raise TooMany(MOST_INPUTS)
    return "\n".join([f"{line} = {entries[line]}" for line in lines])


def book_of(base, entries):
    """The book of all kinds."""
    lines = [f"plane {base}"]
    for name in kinds_among(entries):
        words = entries[name]
        lines.append(f"kind {name}")
        lines.extend([" ".join(words[at:at + base]) for at in range(0, len(words), base)])
    return Book("\n".join(lines))


def picture_for(base, entries, name):
    """The picture of an entry."""
    if not isinstance(entries[name], str):
        return Picture(book_of(base, entries), name)
    lines = lines_for(entries, name)
    book = book_of(base, entries)
    held = {}
    for line in lines:
        for other in names_in(entries[line]):
            if other not in held:
                held[other] = Picture(book, other)
        held[line] = made_by(told_step(entries[line]), held)
    return held[name]
