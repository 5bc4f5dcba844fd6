"""What other files share of Stairs: simple shapes, marks of days, and Stairs put together from parts."""

import unittest

from finestairs.shapes import days_above, days_from, first_unlike, first_with, level, pieced, rising
from finestairs.stairs import Stairs
from tests.helper import handmade, in_one_way, made, numbers

DAYS = 60


class ShapesTest(unittest.TestCase):
    def test_simple_ones(self):
        self.assertEqual((level(-3).pieces, rising().pieces, days_from(4).pieces), (((0, -3, 0),), ((0, 0, 1),), ((0, 0, 0), (4, 1, 0))))
        self.assertEqual([days_from(1)[day] for day in range(3)], [0, 1, 1])

    def test_days_above(self):
        for pieces in handmade() + made(60, 41):
            row = numbers(pieces, DAYS)
            for number in (-4, -1, 0, 1, 5):
                marks = days_above(Stairs(pieces), number)
                self.assertEqual([marks[day] for day in range(DAYS)], [int(one > number) for one in row])

    def test_first_with_and_first_unlike(self):
        for one, other in zip(handmade(), made(24, 42)):
            row, others = numbers(one, DAYS), numbers(other, DAYS)
            for day in (0, 1, 5, 9):
                self.assertEqual(first_with(Stairs(one), row[day + 3], day), row.index(row[day + 3], day))
            unlike = [day for day in range(DAYS) if row[day] != others[day]]
            self.assertEqual(first_unlike(Stairs(one), Stairs(other)), unlike[0] if unlike else None)
            self.assertIsNone(first_unlike(Stairs(one), Stairs(one)))

    def test_pieced(self):
        rows = [Stairs(pieces) for pieces in made(40, 43)]
        for at, stretches in enumerate((
            [(0, None)], [(0, 3), (4, None)], [(0, 0), (1, 1), (2, None)], [(2, 5)], [(3, 3), (5, 9), (11, None)], [], [(0, 7)],
            [(7, None), (0, 2)], [(4, 5), (2, 2), (6, 6)],
        )):
            parts = [(stretch, rows[at + 3 * number]) for number, stretch in enumerate(stretches)]
            told = [0] * DAYS
            for (first, last), stairs in parts:
                for day in range(first, DAYS if last is None else last + 1):
                    told[day] = stairs[day]
            self.assertEqual(pieced(parts).pieces, in_one_way(told))


if __name__ == "__main__":
    unittest.main()
