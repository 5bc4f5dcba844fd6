"""Point 4: what is not as told, and the error that is named for it."""

import copy
import unittest

from finestairs.errors import BadDay, BadNumber, BadPieces, BadText, Endless
from finestairs.stairs import Stairs
from tests.helper import any_values, handmade, made, same

ONE = Stairs(((0, 0, 0), (3, 2, 2)))


def whole(value):
    return value.__class__ is int


class WrongTest(unittest.TestCase):
    def refused(self, error, deed, value):
        ahead = copy.deepcopy(value)
        with self.subTest(value=value), self.assertRaises(error) as caught:
            deed(value)
        self.assertIs(caught.exception.__class__, error)
        self.assertIs(caught.exception.value, value)
        self.assertTrue(same(value, ahead))

    def test_pieces(self):
        right = [((0, 0, 0),), ((0, 5, 1), (4, 0, 0))]
        wrong = [
            ((0, 0),), ((0, 0, 0, 0),), ((1, 0, 0),), ((-1, 0, 0),), ((-1, 0, 0), (0, 0, 0)), ((0, 0, 0), (0, 0, 0)),
            ((0, 0, 0), (3, 1, 1), (2, 0, 0)), ((0, 0, 0), (3, 1, 1), (3, 1, 1)), ((0, 0, 0), [1, 1, 1]),
            [(0, 0, 0)], ((0, 0, 0), ()), ((0, 0, 0), None), ((False, 0, 0),), ((0, True, 0),), ((0, 0, False),),
            ((0, 0, 0), (True, 0, 0)), ((0, "0", 0),), ((0, 0, None),), ((0, (0,), 0),), ((0, ONE, 0),), (ONE,),
            ((0, 0, 0), "012"), ("000",), ((0, 0, 0), {1: 1, 2: 2, 3: 3}), ((0, 0, 0), (1, 0)), ONE.text, ONE,
        ]
        for value in any_values() + wrong:
            if value not in right:
                self.refused(BadPieces, Stairs, value)

    def test_texts(self):
        right = ["0 0 0", "0 0 0, 3 2 2"]
        wrong = [
            " ", "0 0", "0 0 0 0", "0 0 0,", "0 0 0, ", ", 0 0 0", "0 0 0,3 2 2", "0 0 0 , 3 2 2", "0 0 0,  3 2 2",
            "0 0 0 ", " 0 0 0", "0  0 0", "00 0 0", "-0 0 0", "0 -0 0", "0 0 -00", "0 +1 0", "0 01 0", "0 -01 0",
            "0 1_0 0", "0 0 0\n", "0 0\n0", "0\t0 0", "0 0.0 0", "0x0 0 0", "0 --1 0", "0 - 0", "0 0 0, 0 0 1",
            "1 0 0", "-1 0 0", "0 0 0, 3 2 2, 2 0 0", "0 0 0, -3 2 2", "0 a 0", "0 0 None", "(0, 0, 0)", "((0, 0, 0),)",
            "0 0 0;3 2 2", "0 0 0, 3 2", "0 7 0, 1 7 0", "0 0 0, 1 5 0, 2 0 0", "0 0 0, 3 0 2", "0 0 0, 3 0 0",
            "0 0 0, 1 1 1", "Stairs.of('0 0 0')", "True 0 0",
        ]
        for value in any_values() + wrong:
            if value not in right:
                self.refused(BadText, Stairs.of, value)

    def test_texts_of_pieces_told_in_another_way(self):
        for pieces in handmade() + made(300, 5):
            text = ", ".join(" ".join(str(part) for part in piece) for piece in pieces)
            if Stairs(pieces).pieces != pieces:
                self.refused(BadText, Stairs.of, text)
            else:
                self.assertEqual(Stairs.of(text).text, text)

    def test_days(self):
        for value in any_values() + [-10 ** 20]:
            if not (whole(value) and value >= 0):
                self.refused(BadDay, lambda day: ONE[day], value)
                self.refused(BadDay, ONE.moved, value)
                self.refused(BadDay, ONE.held, value)

    def test_numbers(self):
        for value in any_values():
            if not whole(value):
                self.refused(BadNumber, ONE.days_of, value)

    def test_endless(self):
        with self.assertRaises(Endless) as caught:
            ONE.from_here
        self.assertIsNone(caught.exception.value)

    def test_operands(self):
        for value in any_values():
            with self.subTest(value=value):
                if not isinstance(value, Stairs):
                    self.assertRaises(TypeError, lambda: ONE + value)
                    self.assertRaises(TypeError, lambda: value + ONE)
                    self.assertRaises(TypeError, lambda: ONE - value)
                    self.assertRaises(TypeError, lambda: value - ONE)
                    self.assertRaises(TypeError, lambda: ONE | value)
                    self.assertRaises(TypeError, lambda: value | ONE)
                    self.assertRaises(TypeError, lambda: ONE & value)
                    self.assertRaises(TypeError, lambda: value & ONE)
                    self.assertRaises(TypeError, ONE.nowhere_above, value)
                    self.assertRaises(TypeError, ONE.first_less, value)
                if not whole(value):
                    self.assertRaises(TypeError, lambda: ONE * value)
                    self.assertRaises(TypeError, lambda: value * ONE)
                self.assertRaises(TypeError, lambda: ONE < value)
                self.assertRaises(TypeError, lambda: ONE >= value)
                self.assertRaises(TypeError, lambda: ONE // value)
                self.assertRaises(TypeError, lambda: value in ONE)

    def test_operands_of_one(self):
        self.assertRaises(TypeError, lambda: +ONE)
        self.assertRaises(TypeError, lambda: ~ONE)

    def test_equal_with_anything(self):
        for value in any_values() + [ONE.pieces, ONE.text, repr(ONE), [ONE]]:
            with self.subTest(value=value):
                self.assertIs(ONE == value, False)
                self.assertIs(value == ONE, False)
                self.assertIs(ONE != value, True)
                self.assertIs(value != ONE, True)
        self.assertIs(ONE == Stairs.of(ONE.text), True)
        self.assertIs(ONE != Stairs.of(ONE.text), False)

    def test_a_refused_call_changes_nothing(self):
        stairs = Stairs(((0, 0, 0), (3, 2, 2)))
        for value in any_values():
            for deed in (Stairs, Stairs.of, lambda day: stairs[day], stairs.moved, stairs.held, stairs.days_of,
                         lambda other: stairs + other, stairs.first_less):
                try:
                    deed(value)
                except (ValueError, TypeError):
                    pass
        self.assertEqual(stairs.pieces, ((0, 0, 0), (3, 2, 2)))


if __name__ == "__main__":
    unittest.main()
