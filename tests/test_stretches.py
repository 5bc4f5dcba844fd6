"""What other files share of stretches."""

import unittest

from finestairs.stairs import Stairs
from finestairs.stretches import are_stretches, marked, nowhere_less
from tests.helper import any_values, handmade, made

DAYS = 60


class StretchesTest(unittest.TestCase):
    def test_right_ones(self):
        for value in (
            ((0, 0),), ((0, None),), ((7, 9),), ((7, 9), (11, None)), ((0, 0), (2, 2), (4, 4)), ((3, 3), (10 ** 60, None)), ((0, 10 ** 39),),
        ):
            self.assertIs(are_stretches(value), True, value)

    def test_wrong_ones(self):
        for value in (
            (), ((7, 6),), ((7, 9), (10, None)), ((7, 9), (9, None)), ((7, 9), (2, 3)), ((7, None), (9, 9)), ((0, None), (0, None)), (0, None),
            ((-1, 3),), ((0, -1),), ((0,),), ((0, 1, 2),), ((None, 3),), ((True, 3),), ((0, True),), ((0, 3), (True, None)), ([0, 3],), [(0, 3)],
            ((0, 3), None), ((0, 3), ()), ((0, "3"),), (("0", 3),), ((None, None),),
        ):
            self.assertIs(are_stretches(value), False, value)

    def test_any_value(self):
        for value in any_values():
            self.assertIs(are_stretches(value), False)
            self.assertIs(are_stretches(((0, 3), value)), False)
            self.assertIs(are_stretches(((0, value),)), value is None or (value.__class__ is int and value >= 0))

    def test_marked(self):
        marks = marked(((2, 3), (5, 5), (9, None)))
        self.assertEqual([marks[day] for day in range(12)], [0, 0, 1, 1, 0, 1, 0, 0, 0, 1, 1, 1])
        self.assertEqual(marked(((0, None),)), Stairs(((0, 1, 0),)))

    def test_nowhere_less(self):
        for one, other in zip(handmade() + made(100, 91), handmade()[::-1] + made(100, 92)):
            one, other = Stairs(one), Stairs(other)
            for days in (((0, None),), ((3, 5),), ((0, 0), (2, 7)), ((1, 1), (4, 4), (9, None))):
                here = [day for day in range(DAYS) if any(first <= day and (last is None or day <= last) for first, last in days)]
                self.assertIs(nowhere_less(one, other, days), all(one[day] >= other[day] for day in here))


if __name__ == "__main__":
    unittest.main()
