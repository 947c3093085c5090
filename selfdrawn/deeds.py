"""Deeds: what changes the entries of a desk. Each returns the entries that are there behind it."""

from selfdrawn.books import told_word
from selfdrawn.checks import is_cell, is_kind_name
from selfdrawn.entries import (
    first_unknown, kinds_among, lines_among, names_in, names_in_words, ring_through, those_naming,
)
from selfdrawn.errors import (
    BadCell, BadLine, BadName, BadWord, BadWords, Full, Held, InUse, NoKind, NoName, Ring,
)
from selfdrawn.grids import cell_index
from selfdrawn.steps import told_step, told_whole

MOST_ENTRIES = 12


def is_word(value):
    """Whether value is a word of a block."""
    return isinstance(value, str) and told_word(value, 2) is not None


def are_words(value, many):
    """Whether value is a tuple of so many words of a block."""
    return isinstance(value, tuple) and len(value) == many and all([is_word(word) for word in value])


def check_name(name, others):
    """Refuse what no entry can be called, and the names of the other entries that are no such ones."""
    if not is_kind_name(name):
        raise BadName(name)
    if name in others:
        raise Held(name)


def check_kinds(entries, name, words):
    """Refuse words that name what is neither a kind nor this one."""
    unknown = first_unknown(names_in_words(words), kinds_among(entries) + (name,))
    if unknown is not None:
        raise NoKind(unknown)


def check_full(entries, name):
    """Refuse an entry more than a desk can hold."""
    if len(entries) == MOST_ENTRIES and name not in entries:
        raise Full(MOST_ENTRIES)


def with_entry(entries, name, entry):
    """The entries with this one under this name."""
    told = {other: held for other, held in entries.items()}
    told[name] = entry
    return told


def drawn(base, entries, name, words):
    """The entries with a kind that has this block."""
    check_name(name, lines_among(entries))
    if not are_words(words, base * base):
        raise BadWords(words)
    check_kinds(entries, name, words)
    check_full(entries, name)
    return with_entry(entries, name, words)


def check_kind_named(entries, name):
    """Refuse what is not the name of a kind."""
    if not isinstance(name, str) or name not in kinds_among(entries):
        raise NoKind(name)


def changed(base, entries, name, cell, word):
    """The entries with this word in a cell of a kind."""
    check_kind_named(entries, name)
    if not is_cell(cell, 2, base):
        raise BadCell(cell)
    if not is_word(word):
        raise BadWord(word)
    check_kinds(entries, name, (word,))
    words = list(entries[name])
    words[cell_index(cell, base)] = word
    return with_entry(entries, name, tuple(words))


def lined(entries, name, line):
    """The entries with this line."""
    check_name(name, kinds_among(entries))
    if not isinstance(line, str) or told_step(line) is None:
        raise BadLine(line)
    unknown = first_unknown(names_in(line), list(entries) + [name])
    if unknown is not None:
        raise NoName(unknown)
    told = with_entry(entries, name, line)
    ring = ring_through(told, name)
    if ring is not None:
        raise Ring(ring)
    check_full(entries, name)
    return told


def check_held(entries, name):
    """Refuse what is not the name of an entry."""
    if not isinstance(name, str) or name not in entries:
        raise NoName(name)


def removed(entries, name):
    """The entries without this one."""
    check_held(entries, name)
    users = those_naming(entries, name)
    if users:
        raise InUse(users)
    return {other: held for other, held in entries.items() if other != name}


def is_deed_word(word):
    """Whether a part of a text between blanks is a word: one or more printable characters."""
    return len(word) > 0 and all([" " < sign <= "~" for sign in word])


def told_deed(base, text):
    """What the text of a deed tells, its word first; None if it is none."""
    words = text.split(" ") if isinstance(text, str) else []
    if len(words) < 2 or not all([is_deed_word(word) for word in words]):
        return None
    word, name = words[0], words[1]
    if word == "draw" and len(words) == 2 + base * base:
        return word, name, tuple(words[2:])
    if word == "change" and len(words) == 5:
        cell = (told_whole(words[2]), told_whole(words[3]))
        return None if None in cell else (word, name, cell, words[4])
    if word == "let" and len(words) > 2:
        return word, name, " ".join(words[2:])
    return (word, name) if word == "remove" and len(words) == 2 else None


def done(base, entries, told):
    """The entries behind a deed, as it is told by its text."""
    word, name = told[0], told[1]
    if word == "draw":
        return drawn(base, entries, name, told[2])
    if word == "change":
        return changed(base, entries, name, told[2], told[3])
    if word == "let":
        return lined(entries, name, told[2])
    return removed(entries, name)


def entries_behind(base, deeds):
    """The entries behind all these deeds, none of which raises."""
    entries = {}
    for text in deeds:
        entries = done(base, entries, told_deed(base, text))
    return entries
