r"""The example at the end of section 4, word for word.

>>> from selfdrawn.books import Book, drawn_cells
>>> from selfdrawn.motions import back_motion, cell_under, joint_motion, point_under
>>> book = Book('plane 2\nkind a\na b/4\n. #\nkind b\n# .\n. a')
>>> [book.sides, book.base, book.names, len(book), 'b' in book]
[2, 2, ('a', 'b'), 2, True]
>>> book.blocks
(((0, 0), (1, 4), None, 'full'), ('full', None, None, (0, 0)))
>>> [joint_motion(2, 1, 4), joint_motion(2, 4, 1), back_motion(2, 1), back_motion(2, 5), joint_motion(1, 1, 1)]
[7, 5, 3, 5, 0]
>>> [point_under(2, 1, ((1, 4), (0, 1))), cell_under(2, 4, 3, (0, 1))]
[((1, 1), (1, 4)), (1, 3)]
>>> drawn_cells(book, 'b', 1)
(((0, 0), 'full'), ((1, 1), (0, 0)))
>>> drawn_cells(book, 'a', 2)[:5]
(((0, 0), (0, 0)), ((1, 0), (1, 4)), ((1, 1), 'full'), ((2, 1), (0, 4)), ((2, 2), 'full'))
"""

import doctest
import sys
import unittest


class ExampleTest(unittest.TestCase):

    def test_the_example_of_section_4(self):
        results = doctest.testmod(sys.modules[__name__])
        self.assertEqual(results.failed, 0)
        self.assertEqual(results.attempted, 9)
