"""Slow checks of programs, from their texts and the document's words alone, by Fractions."""

from fractions import Fraction

from selfdrawn.programs import Program
from tests.helpers import TABLES

WORDS = ("joined", "met", "turned", "moved", "lesser", "zoomed")
LOWS = (1, 2, 3, 4, 5, 6, 12)


def some_fraction(draw):
    """A number from -1 to 1, as a program tells it."""
    low = draw.choice(LOWS)
    return str(Fraction(draw.randint(-low, low), low))


def some_step(draw, names, last, words=WORDS):
    """The right side of a line over these names, mostly of the last one of them."""
    word = draw.choice(words)
    one, other = [last if draw.random() < 0.6 else draw.choice(names) for _ in range(2)]
    if word in ("joined", "met"):
        return f"{word} {one} {other}"
    if word == "turned":
        return f"turned {one} {draw.randint(0, 7)}"
    if word == "moved":
        return f"moved {one} {some_fraction(draw)} {some_fraction(draw)}"
    many = draw.randint(1, 4)
    return f"{word} {one} {many} {draw.randrange(many)} {draw.randrange(many)}"


def some_text(draw, lines, inputs, words=WORDS):
    """The text of a program of so many lines over at most so many inputs."""
    names = list("abcd")[:inputs]
    told = []
    for at in range(lines):
        last = told[-1].split(" ")[0] if told else names[0]
        name = draw.choice((f"l{chr(97 + at)}", f"l{chr(97 + at)}", "a", "m"))
        told.append(f"{name} = {some_step(draw, names, last, words)}")
        names.append(name)
    return "\n".join(told)


def source_of(lines, at, name):
    """The number of the nearest line ahead with this name, or the name itself."""
    ahead = [number for number in range(at) if lines[number][0] == name]
    return ahead[-1] if ahead else name


def least(sets):
    return {one for one in sets if not any(other < one for other in sets)}


def led(words, point):
    """The point to which a step other than joined and met leads a point, wherever that lies."""
    x, y = point
    if words[0] == "turned":
        starts = [motion for motion in range(8) if TABLES[2][int(words[2])](*TABLES[2][motion](x, y)) == (x, y)]
        return [TABLES[2][motion](x, y) for motion in starts][0]
    if words[0] == "moved":
        return x - Fraction(words[2]), y - Fraction(words[3])
    many, column, row = map(int, words[2:])
    if words[0] == "lesser":
        return many * x - column, many * y - row
    return (x + column) / many, (y + row) / many


def needs(text, point):
    """The set of the least enough sets, frozensets of pairs of an input and a point of Fractions."""
    lines = [line.split(" = ") for line in text.split("\n")]

    def sets_of(source, place):
        if isinstance(source, str):
            return {frozenset([(source, place)])}
        words = lines[source][1].split(" ")
        one = source_of(lines, source, words[1])
        if words[0] in ("joined", "met"):
            mine, others = sets_of(one, place), sets_of(source_of(lines, source, words[2]), place)
            if words[0] == "joined":
                return least(mine | others)
            return least({a | b for a in mine for b in others})
        end = led(words, place)
        return sets_of(one, end) if all(0 <= number <= 1 for number in end) else set()

    return sets_of(len(lines) - 1, tuple(point))


def told_needs(text, point):
    """What needs_at has to tell."""
    found = []
    for pairs in needs(text, point):
        found.append(tuple(sorted(
            (name, tuple((number.numerator, number.denominator) for number in place)) for name, place in pairs
        )))
    return tuple(sorted(found, key=lambda pairs: (len(pairs), pairs)))


def atoms(text):
    """How many atoms a program has, maps being told apart by where they lead three corners."""
    lines = [line.split(" = ") for line in text.split("\n")]
    corners = ((Fraction(0), Fraction(0)), (Fraction(1), Fraction(0)), (Fraction(0), Fraction(1)))
    found = set()
    waiting = [(len(lines) - 1, corners)]
    seen = set()
    while waiting:
        source, places = waiting.pop()
        if (source, places) in seen:
            continue
        seen.add((source, places))
        if isinstance(source, str):
            found.add((source, places))
            continue
        words = lines[source][1].split(" ")
        if words[0] in ("joined", "met"):
            waiting += [(source_of(lines, source, name), places) for name in words[1:]]
        else:
            waiting.append((source_of(lines, source, words[1]), tuple(led_free(words, place) for place in places)))
    return len(found)


def led_free(words, place):
    """As led, also for places beside the square, where motions lead as they do within it."""
    return led(words, place)


def some_programs(draw, many, lines, inputs, words=WORDS):
    """Programs with at most twelve atoms."""
    found = []
    while len(found) < many:
        text = some_text(draw, draw.randint(1, lines), draw.randint(1, inputs), words)
        if atoms(text) <= 12:
            found.append(Program(text))
    return found


def likely_fractions(draw, many):
    """Points with numbers on seams and beside them."""
    found = []
    for _ in range(many):
        lows = draw.choice(((1, 2, 3, 4, 6, 12), (24, 36, 48, 60), (7, 11, 997), (1, 2)))
        chosen = [draw.choice(lows) for _ in range(2)]
        found.append(tuple(Fraction(draw.randint(0, low), low) for low in chosen))
    return found
