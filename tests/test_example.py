r"""The examples of the document, section by section, word for word."""

import doctest
import sys
import unittest


def section_4():
    r"""
    >>> from selfdrawn.books import Book, drawn_cells
    >>> from selfdrawn.motions import back_motion, cell_under, joint_motion, point_under
    >>> book = Book('plane 2\nkind a\na b/4\n. #\nkind b\n# .\n. a')
    >>> [book.sides, book.base, book.names, len(book), 'b' in book]
    [2, 2, ('a', 'b'), 2, True]
    >>> book.blocks
    (((0, 0), (1, 4), None, 'full'), ('full', None, None, (0, 0)))
    >>> [joint_motion(2, 1, 4), joint_motion(2, 4, 1), back_motion(2, 1), back_motion(2, 5), joint_motion(1, 1, 1)]
    [7, 5, 3, 5, 0]
    >>> [point_under(2, 1, ((1, 4), (0, 1))), cell_under(2, 4, 3, (0, 1))]
    [((1, 1), (1, 4)), (1, 3)]
    >>> drawn_cells(book, 'b', 1)
    (((0, 0), 'full'), ((1, 1), (0, 0)))
    >>> drawn_cells(book, 'a', 2)[:5]
    (((0, 0), (0, 0)), ((1, 0), (1, 4)), ((1, 1), 'full'), ((2, 1), (0, 4)), ((2, 2), 'full'))
    """


def section_5():
    r"""
    >>> from selfdrawn.books import Book
    >>> from selfdrawn.pictures import content_at, Picture, picture_from, picture_text, single_point, whole_picture
    >>> book = Book('plane 2\nkind d\nd .\n. d\nkind e\n# .\n. .')
    >>> d, e = Picture(book, 'd'), Picture(book, 'e')
    >>> d.form
    ((0, 1, 2, 0), (-1, -1, 1, -1), (-1, 2, -1, -1))
    >>> picture_text(d)
    'plane 2\nkind a\na b\nc a\nkind b\n. .\nb .\nkind c\n. c\n. .'
    >>> [content_at(d, 3, (2, 3)).form, content_at(d, 3, (2, 4)).form, len(single_point(2, ((1, 2), (1, 2))))]
    [((-1, 0, -1, -1),), (), 5]
    >>> e.form
    ((1, 2, 3, 4), (1, 1, 1, 1), (2, -1, 2, -1), (3, 3, -1, -1), (4, -1, -1, -1))
    >>> [picture_from(2, 2, d.form) == d, whole_picture(1, 3).form]
    [True, ((0, 0, 0),)]
    """


def section_6():
    r"""
    >>> from selfdrawn.books import Book
    >>> from selfdrawn.pictures import Picture
    >>> from selfdrawn.points import bounding_box, first_point, fraction_of, has_point, last_point, place_of, point_cells
    >>> [place_of(2, (5, 12)), place_of(2, (1, 2)), place_of(3, (1, 2)), fraction_of(2, ((0, 1), (1, 0)))]
    [((0, 1), (1, 0)), ((1,), (0,)), ((), (1,)), (5, 12)]
    >>> [point_cells(2, 1, ((1, 2), (1, 2))), point_cells(2, 1, ((0, 1), (1, 3))), point_cells(3, 2, ((1, 3),))]
    [((0, 0), (0, 1), (1, 0), (1, 1)), ((0, 0),), ((2,), (3,))]
    >>> sieve = Picture(Book('plane 2\nkind a\na .\na a'), 'a')
    >>> [has_point(sieve, point) for point in (((1, 3), (1, 3)), ((1, 3), (2, 3)), ((1, 2), (3, 4)), ((1, 2), (1, 4)))]
    [True, False, True, False]
    >>> corner = Picture(Book('plane 2\nkind a\n. b\nb .\nkind b\nb .\n. .'), 'a')
    >>> [first_point(corner), last_point(corner), bounding_box(corner)[1]]
    [(((), (0,)), ((1,), (0,))), (((1,), (0,)), ((), (0,))), (((), (0,)), ((1,), (0,)))]
    """


def section_7():
    r"""
    >>> from selfdrawn.beside import is_within, meeting_place, symmetries_of
    >>> from selfdrawn.books import Book
    >>> from selfdrawn.pictures import Picture
    >>> book = Book('plane 2\nkind two\n# .\n. #\nkind three\n# #\n. #\nkind first\nfirst .\n. .\nkind last\n. .\n. last')
    >>> two, three, first, last = [Picture(book, name) for name in ('two', 'three', 'first', 'last')]
    >>> [is_within(two, three), is_within(three, two), is_within(first, two)]
    [('within',), ('parts', 2, (3, 0)), ('within',)]
    >>> [meeting_place(first, last), meeting_place(two, last)]
    [('apart', 2), ('meet', (((), (1,)), ((), (1,))))]
    >>> [symmetries_of(two), symmetries_of(three), symmetries_of(first)]
    [(0, 2, 5, 7), (0, 5), (0, 7)]
    """


def section_8():
    r"""
    >>> from selfdrawn.books import Book
    >>> from selfdrawn.making import crossed_lines, joined_pictures, met_pictures, parts_of, put_together, turned_picture
    >>> from selfdrawn.pictures import empty_picture, Picture, whole_picture
    >>> from selfdrawn.scaling import lesser_picture, zoomed_picture
    >>> zero = Picture(Book('line 2\nkind a\na .'), 'a')
    >>> one = turned_picture(zero, 1)
    >>> ends = joined_pictures(zero, one)
    >>> [zero.form, one.form, ends.form, met_pictures(zero, one).form, put_together((zero, one)) == ends]
    [((0, -1),), ((-1, 0),), ((1, 2), (1, -1), (-1, 2)), (), True]
    >>> half = put_together((one, empty_picture(1, 2)))
    >>> [half.form, half == put_together((one, zero)), parts_of(half) == (one, zero)]
    [((1, 2), (-1, 1), (2, -1)), True, True]
    >>> crossed_lines(zero, ends).form
    ((1, -1, 2, -1), (1, -1, -1, -1), (-1, -1, 2, -1))
    >>> middle = lesser_picture(whole_picture(1, 2), 3, (1,))
    >>> [middle.form, zoomed_picture(middle, 3, (1,)) == whole_picture(1, 2), zoomed_picture(middle, 3, (0,)) == one]
    [((1, 2), (-1, 3), (4, -1), (1, 5), (5, 2), (5, 5)), True, True]
    """


def section_9():
    r"""
    >>> from selfdrawn.books import Book
    >>> from selfdrawn.moves import moved_picture
    >>> from selfdrawn.pictures import Picture, picture_text
    >>> half = Picture(Book('line 2\nkind a\n# .'), 'a')
    >>> [picture_text(moved_picture(half, ((1, 2),))), picture_text(moved_picture(half, ((1, 1),)))]
    ['line 2\nkind a\nb #\nkind b\n. b', 'line 2\nkind a\n. a']
    >>> dust = Picture(Book('line 3\nkind a\na . a'), 'a')
    >>> moved_picture(dust, ((2, 3),)) == Picture(Book('line 3\nkind a\n. . b\nkind b\nb . b'), 'a')
    True
    >>> moved_picture(moved_picture(dust, ((2, 3),)), ((-2, 3),)) == Picture(Book('line 3\nkind a\nb . .\nkind b\nb . b'), 'a')
    True
    """


def section_10():
    r"""
    >>> from selfdrawn.books import Book
    >>> from selfdrawn.cuts import cut_at, slanted_cut
    >>> from selfdrawn.pictures import Picture, whole_picture
    >>> from selfdrawn.shadows import shadow_of, slanted_shadow
    >>> book = Book('plane 2\nkind g\ng .\ng g\nkind v\nv .\nv .')
    >>> g, v = Picture(book, 'g'), Picture(book, 'v')
    >>> [shadow_of(g, 1) == whole_picture(1, 2), shadow_of(v, 0).form, shadow_of(v, 1).form]
    [True, ((0, -1),), ((0, 0),)]
    >>> [line.form for line in slanted_shadow(v, 1, 2)]
    [((0, 0),), ((0, 0),), ((0, -1),)]
    >>> [cut_at(g, 1, (0, 1)).form, cut_at(g, 1, (1, 2)).form, cut_at(v, 0, (1, 3)).form]
    [((0, -1),), ((1, 2), (1, 1), (2, -1)), ()]
    >>> [slanted_cut(g, 1, 1, (0, 1)).form, slanted_cut(g, -1, 1, (1, 1)).form]
    [((0, 0),), ((1, 2), (1, 3), (2, -1), (2, 4), (-1, 4))]
    """


def section_11():
    r"""
    >>> from selfdrawn.books import Book
    >>> from selfdrawn.counts import all_points, area_of, count_cells, how_many
    >>> from selfdrawn.pictures import Picture
    >>> sieve = Picture(Book('plane 2\nkind a\na .\na a'), 'a')
    >>> [count_cells(sieve, 1, (0, 0), (2, 2)), count_cells(sieve, 2, (0, 0), (4, 4)), count_cells(sieve, 2, (1, 0), (4, 3))]
    [4, 13, 6]
    >>> book = Book('plane 2\nkind a\n# a\n. b\nkind b\nb .\n. .\nkind c\nb c\n. .')
    >>> [area_of(Picture(book, name)) for name in book.names] + [area_of(sieve)]
    [(1, 3), (0, 1), (0, 1), (0, 1)]
    >>> [how_many(Picture(book, name)) for name in book.names] + [how_many(sieve)]
    [('more',), ('some', 1), ('countable',), ('more',)]
    >>> corner = Picture(Book('plane 2\nkind a\n. b\nb .\nkind b\nb .\n. .'), 'a')
    >>> [how_many(corner), all_points(corner)]
    [('some', 2), ((((), (0,)), ((1,), (0,))), (((1,), (0,)), ((), (0,))))]
    """


def section_12():
    r"""
    >>> from selfdrawn.books import Book
    >>> from selfdrawn.pictures import Picture
    >>> from selfdrawn.pieces import one_pieces, piece_count, touching_point
    >>> book = Book('plane 2\nkind d\nd .\n. d\nkind e\ne .\n. e/1\nkind g\nc .\n. f\nkind c\nc .\n. .\nkind f\n. .\n. f')
    >>> d, g = Picture(book, 'd'), Picture(book, 'g')
    >>> one_pieces(book)
    ('parted', 'e', (((0, 0),), ((1, 1),)))
    >>> [touching_point(d, d, (0, 0)), touching_point(d, d, (1, 0)), touching_point(d, d, (1, 1))]
    [(((), (0,)), ((), (0,))), None, (((), (1,)), ((), (1,)))]
    >>> [piece_count(d, 2), piece_count(g, 0), piece_count(g, 1)]
    [1, 1, 2]
    """


def section_13():
    r"""
    >>> from selfdrawn.books import Book
    >>> from selfdrawn.counts import area_of
    >>> from selfdrawn.inside import edge_of, inside_cell, left_picture, outside_of, solid_part
    >>> from selfdrawn.pictures import Picture
    >>> from selfdrawn.points import has_point
    >>> book = Book('plane 2\nkind two\n# .\n. #\nkind three\n# #\n. #\nkind others\n. #\n# .\nkind right\n. #\n. .\nkind dust\ndust #\n. dust')
    >>> two, three, others, right, dust = [Picture(book, name) for name in book.names]
    >>> [outside_of(two) == others, left_picture(three, two) == right, solid_part(two) == two]
    [True, True, True]
    >>> cross = edge_of(two)
    >>> [has_point(cross, ((1, 2), (1, 3))), has_point(cross, ((1, 3), (1, 3))), area_of(cross), inside_cell(cross)]
    [True, False, (0, 1), ('thin',)]
    >>> [inside_cell(two), inside_cell(dust), solid_part(dust) == dust, area_of(outside_of(dust))]
    [('inside', 1, (0, 0)), ('inside', 1, (1, 0)), True, (1, 2)]
    """


def section_14():
    r"""
    >>> from selfdrawn.books import Book
    >>> from selfdrawn.inks import exchange_seen, ink_at, inks_in, same_inks, unseen_inks
    >>> from selfdrawn.pictures import Picture
    >>> book = Book('plane 2\nkind left\n# .\n# .\nkind top\n# #\n. .\nkind corner\n# .\n. .\nkind right\n. #\n. .')
    >>> left, top, corner, right = [Picture(book, name) for name in book.names]
    >>> [ink_at((left, top), point) for point in (((1, 4), (1, 4)), ((3, 4), (1, 4)), ((3, 4), (3, 4)))]
    [0, 1, None]
    >>> [unseen_inks((left, top, corner)), unseen_inks((corner, left, top))]
    [(2,), ()]
    >>> [inks_in((left, top), 1, cell) for cell in ((0, 0), (1, 0), (1, 1))]
    [(0,), (0, 1), (0, 1)]
    >>> [same_inks((left, top), (left, right)), same_inks((left, top), (top, left))]
    [('same',), ('parts', 0, 2, (0, 3))]
    >>> [exchange_seen((left, top), 0), exchange_seen((corner, left, top), 1)]
    [('seen', 0, (0, 0)), ('same',)]
    """


def section_15():
    r"""
    >>> from selfdrawn.forall import needless_inputs, needs_at, same_program, shows_parts
    >>> from selfdrawn.programs import point_made, Program
    >>> back = Program('c = moved a 1/2 0\nd = moved c -1/2 0')
    >>> [back.inputs, back.steps[1], len(back)]
    [('a',), ('d', 'moved', 'c', (-1, 2), (0, 1)), 2]
    >>> [needs_at(back, ((1, 4), (1, 3))), needs_at(back, ((3, 4), (1, 3)))]
    [((('a', ((1, 4), (1, 3))),),), ()]
    >>> still = Program('b = turned a 0')
    >>> value = ('parts', ((((3, 4), (0, 1)),),), ((3, 4), (0, 1)))
    >>> [shows_parts(back, still, value), point_made(still, value[1], value[2]), same_program(back, still)[0]]
    [True, True, 'parts']
    >>> same_program(Program('c = lesser a 2 1 0\nd = zoomed c 2 1 0'), still)
    ('same',)
    >>> turns = [Program('c = joined a b\nd = turned c 2'), Program('c = turned b 2\ne = turned a 2\nd = joined c e')]
    >>> [same_program(turns[0], turns[1]), needs_at(turns[0], ((0, 1), (1, 3)))]
    [('same',), ((('a', ((1, 1), (2, 3))),), (('b', ((1, 1), (2, 3))),))]
    >>> needless_inputs(Program('c = met a b\nd = joined a c'))
    ('b',)
    """


def section_16():
    r"""
    >>> from selfdrawn.desk import Desk
    >>> from selfdrawn.errors import InUse, Ring
    >>> from selfdrawn.journals import journal, read_journal
    >>> desk = Desk(2)
    >>> [desk.draw('p', ('p', '.', '.', '.')), desk.let('q', 'turned p 2'), desk.let('r', 'joined p q')]
    [None, None, None]
    >>> [desk.picture(name).form for name in ('p', 'q', 'r')]
    [((0, -1, -1, -1),), ((-1, -1, -1, 0),), ((1, -1, -1, 2), (1, -1, -1, -1), (-1, -1, -1, 2))]
    >>> [desk.hanging('p'), desk.program('r'), desk.kinds, desk.lines]
    [('p', 'q', 'r'), 'q = turned p 2\nr = joined p q', ('p',), ('q', 'r')]
    >>> [desk.mark('early'), desk.change('p', (1, 0), 'p/1'), desk.picture('q') == desk.picture('p'), desk.back(2), desk.lines, desk.to('early'), desk.place]
    [None, None, False, None, ('q',), None, 3]
    >>> [journal(desk), read_journal(journal(desk)) == desk]
    ['desk 2\ndraw p p . . .\nlet q turned p 2\nlet r joined p q\nplace 3\nmark early\ndraw p p . . .\nlet q turned p 2\nlet r joined p q', True]
    """


# How many examples each section has.
COUNTS = {4: 9, 5: 9, 6: 9, 7: 8, 8: 13, 9: 8, 10: 10, 11: 10, 12: 8, 13: 11, 14: 10, 15: 12, 16: 9}


class ExampleTest(unittest.TestCase):

    def test_each_section(self):
        module = sys.modules[__name__]
        for section, count in COUNTS.items():
            function = getattr(module, f"section_{section}")
            for test in doctest.DocTestFinder().find(function, globs={}):
                results = doctest.DocTestRunner().run(test)
                self.assertEqual((results.failed, results.attempted), (0, count), section)
