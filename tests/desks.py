"""Desks to try things with."""

from selfdrawn.books import Book
from selfdrawn.desk import Desk
from selfdrawn.journals import journal, read_journal
from selfdrawn.pictures import Picture
from selfdrawn.programs import Program, worked_out
from tests.helpers import error_of
from tests.slow_programs import some_step

WORDS_OUT = ("", " ", "a", "#", ".", "p/1", "turned p 1")


def held(desk):
    """All that can be asked of a desk: what two equal desks have in common."""
    names = sorted(desk.kinds + desk.lines)
    return (
        desk.base, desk.kinds, desk.lines, desk.deeds, desk.place, desk.marks, len(desk), journal(desk),
        [(name, desk.entry(name), desk.hanging(name)) for name in names],
    )


def check_desk(case, desk):
    """Check that what a desk holds fits together."""
    case.assertEqual(desk.kinds, tuple(sorted(desk.kinds)))
    case.assertEqual(desk.lines, tuple(sorted(desk.lines)))
    case.assertEqual(desk.marks, tuple(sorted(desk.marks)))
    case.assertEqual(len(desk), len(desk.kinds) + len(desk.lines))
    case.assertTrue(0 <= desk.place <= len(desk.deeds))
    again = Desk(desk.base)
    for text in desk.deeds[:desk.place]:
        again.deed(text)
    case.assertEqual((again.kinds, again.lines), (desk.kinds, desk.lines))
    for name in desk.kinds + desk.lines:
        case.assertIn(name, desk)
        case.assertEqual(again.entry(name), desk.entry(name))
    case.assertEqual(held(read_journal(journal(desk))), held(desk))
    case.assertEqual(read_journal(journal(desk)), desk)


def check_raises(case, desk, error, value, call, *arguments, **named):
    """Check that a call raises just this error, and that the desk is then as before."""
    before = held(desk)
    raised = error_of(call, *arguments, **named)
    case.assertIs(type(raised), error, (arguments, raised))
    if isinstance(value, (tuple, str, int)) and not isinstance(value, bool):
        case.assertEqual((type(raised.value), raised.value), (type(value), value), arguments)
    else:
        case.assertIs(raised.value, value, arguments)
    case.assertEqual(held(desk), before, arguments)


def some_deeds(draw, base, many, names=("a", "b", "c", "d", "plan", "joined")):
    """A desk on which so many deeds have been done, and some that raised."""
    desk = Desk(base)
    while desk.place < many:
        name = draw.choice(names)
        kinds = list(desk.kinds) + [name]
        words = [".", "#"] + kinds + [draw.choice(kinds) + "/" + str(draw.randint(1, 7))]
        way = draw.choice(("draw", "draw", "change", "let", "let", "remove"))
        if way == "draw":
            text = f"draw {name} " + " ".join(draw.choice(words) for _ in range(base * base))
        elif way == "change":
            text = f"change {name} {draw.randrange(base)} {draw.randrange(base)} {draw.choice(words)}"
        elif way == "let":
            text = f"let {name} " + some_step(draw, list(names), draw.choice(names))
        else:
            text = f"remove {name}"
        error_of(desk.deed, text)
    return desk


def picture_by_program(desk, name):
    """The picture of a line by its program, of a kind by the book of all kinds."""
    if name in desk.lines:
        program = Program(desk.program(name))
        return worked_out(program, tuple(desk.picture(kind) for kind in program.inputs))
    lines = [f"plane {desk.base}"]
    for kind in desk.kinds:
        words = desk.entry(kind)
        lines.append("kind " + kind)
        lines += [" ".join(words[at:at + desk.base]) for at in range(0, len(words), desk.base)]
    return Picture(Book("\n".join(lines)), name)
