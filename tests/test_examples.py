"""The examples of the document, as they stand there."""

import doctest
import unittest

STAIRS = """
>>> from finestairs.stairs import Stairs
>>> one, other = Stairs(((0, 0, 0), (3, 2, 2))), Stairs(((0, 9, -1), (5, 4, 0)))
>>> [one.pieces, (one | other).pieces, one.nowhere_above(other), one.first_less(other), (one & other).top, other.bottom]
[((0, 0, 0), (3, 2, 2)), ((0, 9, -1), (5, 6, 2)), False, 0, 4, 4]
>>> [Stairs(((0, 7, 0), (1, 7, 0))).text, other.from_here == other, one.so_far == one, other.days_of(4), one.days_of(0)]
['0 7 0', True, True, ((5, None),), ((0, 2),)]
>>> Stairs(((0, 0, 0), (1, 5, 0), (2, 0, 0))).pieces
((0, 0, 5), (2, 0, 0))
>>> [one.moved(2).text, one.held(1).text, (3 * one - other)[4], Stairs.of('0 0 0, 3 2 2') == one]
['0 0 2', '0 0 0, 4 2 2', 7, True]
"""

FINES = """
>>> from finestairs.fines import fine
>>> [fine('free 2, 3 from 1').text, fine('back 2, 3 from 1, top 15').text, fine('1 from 1, 4 from 3, lost 6 9').text, fine('').text]
['0 0 0, 3 3 3', '0 0 0, 3 9 3, 6 15 0', '0 0 1, 3 6 4, 6 9 0', '0 0 0']
"""


class ExamplesTest(unittest.TestCase):
    def held(self, text):
        test = doctest.DocTestParser().get_doctest(text, {}, "example", None, 0)
        self.assertGreater(len(test.examples), 0)
        told = []
        doctest.DocTestRunner().run(test, out=told.append)
        self.assertEqual("".join(told), "")

    def test_stairs(self):
        self.held(STAIRS)

    def test_fines(self):
        self.held(FINES)


if __name__ == "__main__":
    unittest.main()
