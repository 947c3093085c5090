r"""The examples of the document, section by section, word for word."""

import doctest
import sys
import unittest


def section_4():
    r"""
    >>> from selfdrawn.books import Book, drawn_cells
    >>> from selfdrawn.motions import back_motion, cell_under, joint_motion, point_under
    >>> book = Book('plane 2\nkind a\na b/4\n. #\nkind b\n# .\n. a')
    >>> [book.sides, book.base, book.names, len(book), 'b' in book]
    [2, 2, ('a', 'b'), 2, True]
    >>> book.blocks
    (((0, 0), (1, 4), None, 'full'), ('full', None, None, (0, 0)))
    >>> [joint_motion(2, 1, 4), joint_motion(2, 4, 1), back_motion(2, 1), back_motion(2, 5), joint_motion(1, 1, 1)]
    [7, 5, 3, 5, 0]
    >>> [point_under(2, 1, ((1, 4), (0, 1))), cell_under(2, 4, 3, (0, 1))]
    [((1, 1), (1, 4)), (1, 3)]
    >>> drawn_cells(book, 'b', 1)
    (((0, 0), 'full'), ((1, 1), (0, 0)))
    >>> drawn_cells(book, 'a', 2)[:5]
    (((0, 0), (0, 0)), ((1, 0), (1, 4)), ((1, 1), 'full'), ((2, 1), (0, 4)), ((2, 2), 'full'))
    """


def section_5():
    r"""
    >>> from selfdrawn.books import Book
    >>> from selfdrawn.pictures import content_at, Picture, picture_from, picture_text, single_point, whole_picture
    >>> book = Book('plane 2\nkind d\nd .\n. d\nkind e\n# .\n. .')
    >>> d, e = Picture(book, 'd'), Picture(book, 'e')
    >>> d.form
    ((0, 1, 2, 0), (-1, -1, 1, -1), (-1, 2, -1, -1))
    >>> picture_text(d)
    'plane 2\nkind a\na b\nc a\nkind b\n. .\nb .\nkind c\n. c\n. .'
    >>> [content_at(d, 3, (2, 3)).form, content_at(d, 3, (2, 4)).form, len(single_point(2, ((1, 2), (1, 2))))]
    [((-1, 0, -1, -1),), (), 5]
    >>> e.form
    ((1, 2, 3, 4), (1, 1, 1, 1), (2, -1, 2, -1), (3, 3, -1, -1), (4, -1, -1, -1))
    >>> [picture_from(2, 2, d.form) == d, whole_picture(1, 3).form]
    [True, ((0, 0, 0),)]
    """


def section_6():
    r"""
    >>> from selfdrawn.books import Book
    >>> from selfdrawn.pictures import Picture
    >>> from selfdrawn.points import bounding_box, first_point, fraction_of, has_point, last_point, place_of, point_cells
    >>> [place_of(2, (5, 12)), place_of(2, (1, 2)), place_of(3, (1, 2)), fraction_of(2, ((0, 1), (1, 0)))]
    [((0, 1), (1, 0)), ((1,), (0,)), ((), (1,)), (5, 12)]
    >>> [point_cells(2, 1, ((1, 2), (1, 2))), point_cells(2, 1, ((0, 1), (1, 3))), point_cells(3, 2, ((1, 3),))]
    [((0, 0), (0, 1), (1, 0), (1, 1)), ((0, 0),), ((2,), (3,))]
    >>> sieve = Picture(Book('plane 2\nkind a\na .\na a'), 'a')
    >>> [has_point(sieve, point) for point in (((1, 3), (1, 3)), ((1, 3), (2, 3)), ((1, 2), (3, 4)), ((1, 2), (1, 4)))]
    [True, False, True, False]
    >>> corner = Picture(Book('plane 2\nkind a\n. b\nb .\nkind b\nb .\n. .'), 'a')
    >>> [first_point(corner), last_point(corner), bounding_box(corner)[1]]
    [(((), (0,)), ((1,), (0,))), (((1,), (0,)), ((), (0,))), (((), (0,)), ((1,), (0,)))]
    """


def section_7():
    r"""
    >>> from selfdrawn.beside import is_within, meeting_place, symmetries_of
    >>> from selfdrawn.books import Book
    >>> from selfdrawn.pictures import Picture
    >>> book = Book('plane 2\nkind two\n# .\n. #\nkind three\n# #\n. #\nkind first\nfirst .\n. .\nkind last\n. .\n. last')
    >>> two, three, first, last = [Picture(book, name) for name in ('two', 'three', 'first', 'last')]
    >>> [is_within(two, three), is_within(three, two), is_within(first, two)]
    [('within',), ('parts', 2, (3, 0)), ('within',)]
    >>> [meeting_place(first, last), meeting_place(two, last)]
    [('apart', 2), ('meet', (((), (1,)), ((), (1,))))]
    >>> [symmetries_of(two), symmetries_of(three), symmetries_of(first)]
    [(0, 2, 5, 7), (0, 5), (0, 7)]
    """


def section_8():
    r"""
    >>> from selfdrawn.books import Book
    >>> from selfdrawn.making import crossed_lines, joined_pictures, met_pictures, parts_of, put_together, turned_picture
    >>> from selfdrawn.pictures import empty_picture, Picture, whole_picture
    >>> from selfdrawn.scaling import lesser_picture, zoomed_picture
    >>> zero = Picture(Book('line 2\nkind a\na .'), 'a')
    >>> one = turned_picture(zero, 1)
    >>> ends = joined_pictures(zero, one)
    >>> [zero.form, one.form, ends.form, met_pictures(zero, one).form, put_together((zero, one)) == ends]
    [((0, -1),), ((-1, 0),), ((1, 2), (1, -1), (-1, 2)), (), True]
    >>> half = put_together((one, empty_picture(1, 2)))
    >>> [half.form, half == put_together((one, zero)), parts_of(half) == (one, zero)]
    [((1, 2), (-1, 1), (2, -1)), True, True]
    >>> crossed_lines(zero, ends).form
    ((1, -1, 2, -1), (1, -1, -1, -1), (-1, -1, 2, -1))
    >>> middle = lesser_picture(whole_picture(1, 2), 3, (1,))
    >>> [middle.form, zoomed_picture(middle, 3, (1,)) == whole_picture(1, 2), zoomed_picture(middle, 3, (0,)) == one]
    [((1, 2), (-1, 3), (4, -1), (1, 5), (5, 2), (5, 5)), True, True]
    """


def section_9():
    r"""
    >>> from selfdrawn.books import Book
    >>> from selfdrawn.moves import moved_picture
    >>> from selfdrawn.pictures import Picture, picture_text
    >>> half = Picture(Book('line 2\nkind a\n# .'), 'a')
    >>> [picture_text(moved_picture(half, ((1, 2),))), picture_text(moved_picture(half, ((1, 1),)))]
    ['line 2\nkind a\nb #\nkind b\n. b', 'line 2\nkind a\n. a']
    >>> dust = Picture(Book('line 3\nkind a\na . a'), 'a')
    >>> moved_picture(dust, ((2, 3),)) == Picture(Book('line 3\nkind a\n. . b\nkind b\nb . b'), 'a')
    True
    >>> moved_picture(moved_picture(dust, ((2, 3),)), ((-2, 3),)) == Picture(Book('line 3\nkind a\nb . .\nkind b\nb . b'), 'a')
    True
    """


def section_10():
    r"""
    >>> from selfdrawn.books import Book
    >>> from selfdrawn.cuts import cut_at, slanted_cut
    >>> from selfdrawn.pictures import Picture, whole_picture
    >>> from selfdrawn.shadows import shadow_of, slanted_shadow
    >>> book = Book('plane 2\nkind g\ng .\ng g\nkind v\nv .\nv .')
    >>> g, v = Picture(book, 'g'), Picture(book, 'v')
    >>> [shadow_of(g, 1) == whole_picture(1, 2), shadow_of(v, 0).form, shadow_of(v, 1).form]
    [True, ((0, -1),), ((0, 0),)]
    >>> [line.form for line in slanted_shadow(v, 1, 2)]
    [((0, 0),), ((0, 0),), ((0, -1),)]
    >>> [cut_at(g, 1, (0, 1)).form, cut_at(g, 1, (1, 2)).form, cut_at(v, 0, (1, 3)).form]
    [((0, -1),), ((1, 2), (1, 1), (2, -1)), ()]
    >>> [slanted_cut(g, 1, 1, (0, 1)).form, slanted_cut(g, -1, 1, (1, 1)).form]
    [((0, 0),), ((1, 2), (1, 3), (2, -1), (2, 4), (-1, 4))]
    """


# How many examples each section has.
COUNTS = {4: 9, 5: 9, 6: 9, 7: 8, 8: 13, 9: 8, 10: 10}


class ExampleTest(unittest.TestCase):

    def test_each_section(self):
        module = sys.modules[__name__]
        for section, count in COUNTS.items():
            function = getattr(module, f"section_{section}")
            for test in doctest.DocTestFinder().find(function, globs={}):
                results = doctest.DocTestRunner().run(test)
                self.assertEqual((results.failed, results.attempted), (0, count), section)
