"""Point 4: each property, method and operator against the number of each day."""

import copy
import unittest

from finestairs.errors import BadNumber, Endless
from finestairs.stairs import Stairs
from tests.helper import corners, handmade, in_one_way, made, made_far, number_on, numbers, stretches

# Behind this day all stairs of these tests, and the greater and lesser ones of two, are straight.
DAYS = 200


def single():
    return handmade() + made(300, 1)


def pairs():
    own = handmade()
    chance = made(2400, 2)
    return [(one, other) for one in own for other in own] + list(zip(chance[::2], chance[1::2]))


class PiecesTest(unittest.TestCase):
    def test_numbers_are_those_of_the_pieces(self):
        for pieces in single():
            stairs = Stairs(pieces)
            self.assertEqual([stairs[day] for day in range(DAYS)], numbers(pieces, DAYS))

    def test_pieces_are_told_in_one_way(self):
        for pieces in single():
            stairs = Stairs(pieces)
            self.assertEqual(stairs.pieces, in_one_way(numbers(pieces, DAYS)))
            self.assertEqual(len(stairs), len(stairs.pieces))
            self.assertIsInstance(stairs.pieces, tuple)
            self.assertEqual({(len(piece), piece.__class__) for piece in stairs.pieces}, {(3, tuple)})

    def test_however_they_are_handed_in(self):
        for pieces in single():
            row = numbers(pieces, 40)
            daily = tuple((day, row[day], row[day + 1] - row[day]) for day in range(39))
            single_days = tuple((day, row[day], 99) for day in range(38)) + (daily[-1],)
            for other in (daily, single_days, Stairs(pieces).pieces):
                self.assertEqual(Stairs(other).pieces, Stairs(pieces).pieces)
                self.assertEqual(Stairs(other), Stairs(pieces))
                self.assertEqual(Stairs(other).text, Stairs(pieces).text)

    def test_text_and_repr(self):
        for pieces in single():
            stairs = Stairs(pieces)
            text = ", ".join(" ".join(str(part) for part in piece) for piece in stairs.pieces)
            self.assertEqual(stairs.text, text)
            self.assertEqual(repr(stairs), "Stairs.of('" + text + "')")
            self.assertEqual(Stairs.of(text), stairs)
            self.assertEqual(Stairs.of(text).pieces, stairs.pieces)

    def test_one_day_behind_a_straight_one_belongs_to_it(self):
        self.assertEqual(Stairs(((0, 0, 2), (3, 6, 0), (4, 1, 0))).pieces, ((0, 0, 2), (4, 1, 0)))
        self.assertEqual(Stairs(((0, 0, 2), (3, 6, 0))).pieces, ((0, 0, 2), (4, 6, 0)))
        self.assertEqual(Stairs(((0, 0, 0), (1, 5, 0))).pieces, ((0, 0, 5), (2, 5, 0)))
        self.assertEqual(Stairs(((0, 0, 0), (1, 5, 5))).pieces, ((0, 0, 5),))

    def test_great_integers_are_written_and_read(self):
        great = Stairs(((0, 1, -1), (10 ** 20, 7, 10 ** 39)))
        for many in range(150):
            if many in (0, 1, 2, 50, 109, 110, 111, 149):
                self.assertEqual(Stairs.of(great.text), great)
                self.assertTrue(great.text.endswith(" 7" + "0" * (39 * many) + " 1" + "0" * (39 * (many + 1))))
                self.assertTrue(great.text.startswith("0 1" + "0" * (39 * many) + " -1" + "0" * (39 * many) + ", 1"))
                self.assertEqual(repr(great), "Stairs.of('" + great.text + "')")
            great = great * 10 ** 39
        for number in [sign * (10 ** far + by) for far in (63, 64, 65, 128) for by in (-1, 0, 1) for sign in (1, -1)]:
            self.assertEqual(Stairs(((0, number, 0),)).text, "0 " + str(number) + " 0")
            self.assertEqual(Stairs.of("0 " + str(number) + " 0")[0], number)


class OperatorsTest(unittest.TestCase):
    def told(self, stairs, row):
        """That these are Stairs with the numbers of this row, told in one way."""
        self.assertIsInstance(stairs, Stairs)
        self.assertEqual(stairs.pieces, in_one_way(row))

    def test_of_two(self):
        for one, other in pairs():
            a, b = numbers(one, DAYS), numbers(other, DAYS)
            left, right = Stairs(one), Stairs(other)
            with self.subTest(one=left, other=right):
                self.told(left + right, [x + y for x, y in zip(a, b)])
                self.told(left - right, [x - y for x, y in zip(a, b)])
                self.told(left | right, [max(x, y) for x, y in zip(a, b)])
                self.told(left & right, [min(x, y) for x, y in zip(a, b)])
                self.assertEqual(left == right, a == b)
                self.assertEqual(left != right, a != b)
                self.assertEqual(left.nowhere_above(right), all(x <= y for x, y in zip(a, b)))
                first = [day for day in range(DAYS) if a[day] < b[day]]
                self.assertEqual(left.first_less(right), first[0] if first else None)

    def test_of_one(self):
        for pieces in single():
            row, stairs = numbers(pieces, DAYS), Stairs(pieces)
            self.told(-stairs, [-number for number in row])
            for many in (-3, -1, 0, 1, 2):
                self.told(stairs * many, [number * many for number in row])
                self.told(many * stairs, [number * many for number in row])

    def test_crossings(self):
        level, rise = Stairs(((0, 4, 0),)), Stairs(((0, 0, 2),))
        self.assertEqual((level | rise).pieces, ((0, 4, 0), (3, 6, 2)))
        self.assertEqual((level & rise).pieces, ((0, 0, 2), (3, 4, 0)))
        between = Stairs(((0, 5, 0),))
        self.assertEqual((between | rise).pieces, ((0, 5, 0), (3, 6, 2)))
        self.assertEqual((between & rise).pieces, ((0, 0, 2), (3, 5, 0)))
        self.assertEqual((rise.first_less(level), level.first_less(rise)), (0, 3))
        self.assertEqual((rise.first_less(between), between.first_less(rise)), (0, 3))

    def test_none_of_first_less(self):
        one, other = Stairs(((0, 4, 1),)), Stairs(((0, 4, 0),))
        self.assertIsNone(one.first_less(one))
        self.assertIsNone(one.first_less(other))
        self.assertEqual(other.first_less(one), 1)
        self.assertIs(one.nowhere_above(one), True)
        self.assertIs(one.nowhere_above(other), False)

    def test_moved_and_held(self):
        for pieces in single():
            row, stairs = numbers(pieces, DAYS), Stairs(pieces)
            for days in (0, 1, 2, 3, 5, 8, 30):
                self.told(stairs.moved(days), row[days:])
                self.told(stairs.held(days), [row[0]] * days + row[:-days or None])


class PropertiesTest(unittest.TestCase):
    def test_top_and_bottom(self):
        for pieces in single():
            row, rate, stairs = numbers(pieces, DAYS), pieces[-1][2], Stairs(pieces)
            self.assertEqual(stairs.top, None if rate > 0 else max(row))
            self.assertEqual(stairs.bottom, None if rate < 0 else min(row))

    def test_so_far(self):
        for pieces in single():
            row = numbers(pieces, DAYS)
            most = [max(row[:day + 1]) for day in range(DAYS)]
            self.assertEqual(Stairs(pieces).so_far.pieces, in_one_way(most))

    def test_from_here(self):
        for pieces in single():
            row, stairs = numbers(pieces, DAYS), Stairs(pieces)
            if pieces[-1][2] > 0:
                with self.assertRaises(Endless) as caught:
                    stairs.from_here
                self.assertIsNone(caught.exception.value)
            else:
                most = [max(row[day:]) for day in range(DAYS)]
                self.assertEqual(stairs.from_here.pieces, in_one_way(most))

    def test_days_of(self):
        for pieces in single():
            row, stairs = numbers(pieces, DAYS), Stairs(pieces)
            for number in range(-12, 13):
                days = [day for day in range(DAYS) if row[day] == number]
                self.assertEqual(stairs.days_of(number), stretches(days, DAYS - 1))

    def test_days_of_joins_neighbours(self):
        self.assertEqual(Stairs(((0, 0, 5), (2, 5, 0))).days_of(5), ((1, None),))
        self.assertEqual(Stairs(((0, 5, 0), (3, 5, 1))).days_of(5), ((0, 3),))
        self.assertEqual(Stairs(((0, 3, 1), (3, 5, -1))).days_of(5), ((2, 3),))
        self.assertEqual(Stairs(((0, 5, 0), (2, 1, 0), (4, 5, 0))).days_of(5), ((0, 1), (4, None)))
        self.assertEqual(Stairs(((0, 5, 0),)).days_of(4), ())
        self.assertEqual(Stairs(((0, 0, 3),)).days_of(4), ())
        self.assertEqual(Stairs(((0, 0, 3),)).days_of(-3), ())
        with self.assertRaises(BadNumber):
            Stairs(((0, 0, 3),)).days_of(True)


class FarTest(unittest.TestCase):
    """Days and numbers as great as can be: what is told is looked up around all corners."""

    def told(self, stairs, number, *rows):
        pieces = stairs.pieces
        for (day, value, rate), (behind, other, _) in zip(pieces, pieces[1:]):
            self.assertGreaterEqual(behind - day, 2)
            self.assertNotEqual(value + rate * (behind - day), other)
        for day in corners(pieces, *rows):
            self.assertEqual(stairs[day], number(day))
            self.assertEqual(number_on(pieces, day), number(day))

    def test_of_two(self):
        rows = made_far(160, 3)
        for one, other in zip(rows[::2], rows[1::2]):
            left, right = Stairs(one), Stairs(other)
            self.told(left, lambda day: number_on(one, day), one)
            self.assertEqual(Stairs.of(left.text), left)
            for stairs, deed in (
                (left + right, lambda a, b: a + b), (left - right, lambda a, b: a - b),
                (left | right, max), (left & right, min), (left * -10 ** 39, lambda a, b: a * -10 ** 39),
            ):
                self.told(stairs, lambda day: deed(number_on(one, day), number_on(other, day)), one, other)
            self.assertEqual(left.nowhere_above(right), (left | right) == right)
            first = left.first_less(right)
            self.assertEqual(first is None, (left & right) == right)
            if first is not None:
                self.assertLess(left[first], right[first])
                days = [day for day in corners(one, other, (left & right).pieces) if day < first]
                self.assertTrue(all(left[day] >= right[day] for day in days))

    def test_of_one(self):
        for pieces in made_far(120, 4):
            stairs = Stairs(pieces)
            for days in (1, 10 ** 20, 10 ** 39):
                self.told(stairs.moved(days), lambda day: number_on(pieces, day + days), pieces)
                self.told(stairs.held(days), lambda day: number_on(pieces, max(0, day - days)), pieces)
            ends = [0] + [end for piece in pieces[1:] for end in (piece[0] - 1, piece[0])]
            so_far = lambda day: max(number_on(pieces, end) for end in [*ends, day] if end <= day)
            from_here = lambda day: max(number_on(pieces, end) for end in [*ends, day] if end >= day)
            self.told(stairs.so_far, so_far, pieces)
            if pieces[-1][2] > 0:
                self.assertIsNone(stairs.top)
                self.assertRaises(Endless, lambda: stairs.from_here)
            else:
                self.assertEqual(stairs.top, from_here(0))
                self.told(stairs.from_here, from_here, pieces)
            for day in corners(pieces):
                rows = stairs.days_of(stairs[day])
                self.assertTrue(any(first <= day and (last is None or day <= last) for first, last in rows))
                for (_, last), (first, _) in zip(rows, rows[1:]):
                    self.assertGreater(first, last + 1)

    def test_far_crossing(self):
        level, rise = Stairs(((0, 10 ** 39, 0),)), Stairs(((0, 0, 3),))
        there = 10 ** 39 // 3 + 1
        self.assertEqual((level | rise).pieces, ((0, 10 ** 39, 0), (there, 3 * there, 3)))
        self.assertEqual(level.first_less(rise), there)
        self.assertEqual(rise.days_of(3 * there), ((there, there),))
        self.assertEqual(level[10 ** 39], 10 ** 39)
        self.assertEqual(rise[10 ** 39], 3 * 10 ** 39)
        self.assertEqual((rise * 10 ** 39)[10 ** 39], 3 * 10 ** 78)

    def test_many_pieces(self):
        teeth = [Stairs(tuple((by + 7 * at if at else 0, at * by, 3 - at % 5) for at in range(60))) for by in range(9)]
        whole = teeth[0]
        for one in teeth[1:]:
            whole = whole + one
        self.assertGreater(len(whole), 60)
        for day in range(500):
            self.assertEqual(whole[day], sum(one[day] for one in teeth))
        self.assertEqual(Stairs(whole.pieces), whole)
        self.assertEqual(Stairs.of(whole.text), whole)


class PromisesTest(unittest.TestCase):
    """Point 2: by name, equal calls, nothing changed."""

    def test_by_name(self):
        one, other = Stairs(pieces=((0, 0, 0), (3, 2, 2))), Stairs.of(text="0 9 -1, 6 4 0")
        self.assertEqual(one, Stairs(((0, 0, 0), (3, 2, 2))))
        self.assertEqual(other, Stairs(((0, 9, -1), (5, 4, 0))))
        self.assertEqual(one.moved(days=2), one.moved(2))
        self.assertEqual(one.held(days=2), one.held(2))
        self.assertEqual(one.nowhere_above(other=other), one.nowhere_above(other))
        self.assertEqual(one.first_less(other=other), one.first_less(other))
        self.assertEqual(one.days_of(number=0), one.days_of(0))

    def test_equal_calls_and_nothing_changed(self):
        for one, other in pairs()[::17]:
            left, right = Stairs(one), Stairs(other)
            ahead = copy.deepcopy((one, other, left, right))
            told = [
                (
                    left + right, left - right, left | right, left & right, -left, left * 3, 3 * left, left[5],
                    left.moved(3), left.held(3), left.top, left.bottom, left.so_far, left.nowhere_above(right),
                    left.first_less(right), left.days_of(2), left.text, repr(left), len(left), left.pieces,
                )
                for _ in range(2)
            ]
            self.assertEqual(told[0], told[1])
            self.assertEqual((one, other, left, right), ahead)
            self.assertEqual((left.pieces, right.pieces), (ahead[2].pieces, ahead[3].pieces))

    def test_of_can_be_asked_of_any_stairs(self):
        self.assertEqual(Stairs(((0, 0, 0),)).of("0 1 2"), Stairs(((0, 1, 2),)))


if __name__ == "__main__":
    unittest.main()
