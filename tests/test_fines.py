"""Point 5: fines by late days."""

import copy
import itertools
import unittest

from finestairs.errors import BadFine
from finestairs.fines import fine
from finestairs.stairs import Stairs
from tests.helper import any_values, asked, in_one_way, same

DAYS = 60


def written(first, rates, top, lost):
    parts = [first[0] + " " + str(first[1])] if first else []
    parts += [str(cost) + " from " + str(begin) for cost, begin in rates]
    parts += [] if top is None else ["top " + str(top)]
    parts += [] if lost is None else ["lost " + str(lost[0]) + " " + str(lost[1])]
    return ", ".join(parts)


FIRSTS = (None, ("free", 0), ("free", 1), ("free", 2), ("free", 7), ("back", 0), ("back", 1), ("back", 2), ("back", 7))
RATES = (
    (), ((3, 1),), ((0, 1),), ((3, 4),), ((1, 1), (4, 3)), ((5, 2), (0, 3), (2, 6)), ((4, 1), (1, 2), (3, 8), (2, 9)),
)
TOPS = (None, 0, 1, 10, 15, 1000)
LOSTS = (None, (1, 9), (6, 9), (6, 0), (12, 100))


class FineTest(unittest.TestCase):
    def test_all_parts_beside_one_another(self):
        for first, rates, top, lost in itertools.product(FIRSTS, RATES, TOPS, LOSTS):
            text = written(first, rates, top, lost)
            with self.subTest(text):
                told = fine(text)
                self.assertIsInstance(told, Stairs)
                row = [asked(day, first, rates, top, lost) for day in range(20)]
                self.assertEqual([told[day] for day in range(20)], row)

    def test_far_behind_and_told_in_one_way(self):
        for first, rates, top, lost in itertools.product(FIRSTS[::2], RATES, TOPS[::2], LOSTS[::2]):
            told = fine(written(first, rates, top, lost))
            row = [asked(day, first, rates, top, lost) for day in range(DAYS)]
            if top != 1000:
                self.assertEqual(told.pieces, in_one_way(row))
            self.assertEqual(fine(written(first, rates, top, lost)), told)

    def test_each_part(self):
        for text, told in (
            ("", "0 0 0"), ("3 from 1", "0 0 3"), ("3 from 2", "0 0 0, 2 3 3"), ("0 from 1", "0 0 0"),
            ("free 0", "0 0 0"), ("back 5", "0 0 0"), ("free 1, 3 from 1", "0 0 0, 2 3 3"),
            ("free 0, 3 from 1", "0 0 3"), ("back 0, 3 from 1", "0 0 3"), ("back 1, 3 from 1", "0 0 0, 2 6 3"),
            ("free 3, 2 from 2, 5 from 5", "0 0 0, 4 2 5"), ("back 3, 2 from 2, 5 from 5", "0 0 0, 4 6 5"),
            ("top 0", "0 0 0"), ("3 from 1, top 0", "0 0 0"), ("3 from 1, top 7", "0 0 3, 3 7 0"),
            ("lost 1 9", "0 0 9, 2 9 0"), ("lost 3 9", "0 0 0, 3 9 0"), ("3 from 1, top 7, lost 4 50", "0 0 3, 3 7 43, 5 50 0"),
            ("3 from 1, top 7, lost 5 50", "0 0 3, 3 7 0, 5 50 0"),
            ("back 9, 3 from 1, lost 2 4", "0 0 0, 2 4 0"), ("free 9, 3 from 1, lost 2 0", "0 0 0"),
        ):
            with self.subTest(text):
                self.assertEqual(fine(text).text, told)

    def test_great_numbers(self):
        far, much = 10 ** 20, 10 ** 39
        self.assertEqual(fine(f"{much} from {far}")[2 * far], much * (far + 1))
        self.assertEqual(fine(f"free {far}, {much} from 1").pieces, ((0, 0, 0), (far + 1, much, much)))
        self.assertEqual(fine(f"back {far}, {much} from 1").pieces, ((0, 0, 0), (far + 1, much * (far + 1), much)))
        self.assertEqual(fine(f"1 from 1, top {much}").pieces, ((0, 0, 1), (much + 1, much, 0)))
        self.assertEqual(fine(f"1 from 1, lost {far} {much}").pieces, ((0, 0, 1), (far, much, 0)))
        self.assertEqual(fine(f"1 from {far}, 2 from {far + 1}, lost {much} 0")[much - 1], 1 + 2 * (much - 1 - far))

    def test_by_name(self):
        self.assertEqual(fine(text="3 from 1"), fine("3 from 1"))


class WrongTest(unittest.TestCase):
    def refused(self, value):
        ahead = copy.deepcopy(value)
        with self.subTest(value=value), self.assertRaises(BadFine) as caught:
            fine(value)
        self.assertIs(caught.exception.value, value)
        self.assertTrue(same(value, ahead))

    def test_any_value(self):
        for value in any_values():
            if value not in ("", "3 from 1", "free 2, 3 from 1"):
                self.refused(value)

    def test_words(self):
        for text in (
            " ", ",", ", ", "free", "free ", "free 2 3", "free -1", "free +1", "free 01", "free 1_0", "free a", "Free 1",
            "FREE 1", "back", "back 00", "back -2", "3 from", "from 1", "3 from 0", "3 from -1", "-3 from 1",
            "3 from 01", "03 from 1", "3  from 1", "3 from  1", "3 from 1 ", " 3 from 1", "3 from 1,", "3 from 1, ",
            ", 3 from 1", "3 From 1", "3 to 1", "3 from 1 2", "3 from one", "top", "top 1 2", "top -1", "top 1.0",
            "lost", "lost 1", "lost 0 9", "lost 1 2 3", "lost -1 9", "lost 1 -9", "lost 01 9", "lost 1 09",
            "3 from 1\n", "3 from 1\n, top 4", "3\tfrom 1", "3 from 1;top 4", "3 from 1,top 4", "3 from 1 , top 4",
            "3 from 1,  top 4", "none", "None", "() from 1", "1", "from", "due 3", "free 2 from 1", "2 free", "9 top",
        ):
            self.refused(text)

    def test_sequence_and_how_many(self):
        for text in (
            "free 1, back 1", "back 1, free 1", "free 1, free 1", "back 1, back 2", "3 from 1, free 1",
            "3 from 1, back 1", "top 4, 3 from 1", "lost 5 9, 3 from 1", "lost 5 9, top 4", "top 4, free 1",
            "top 4, top 4", "top 4, top 5", "lost 5 9, lost 6 9", "3 from 1, 4 from 1", "3 from 2, 4 from 1",
            "1 from 1, 2 from 3, 3 from 3", "1 from 1, 2 from 4, 3 from 3",
            "1 from 1, 1 from 2, 1 from 3, 1 from 4, 1 from 5", "3 from 1, top 4, 4 from 2",
        ):
            self.refused(text)

    def test_four_are_let(self):
        self.assertEqual(fine("1 from 1, 1 from 2, 1 from 3, 1 from 4").text, "0 0 1")


if __name__ == "__main__":
    unittest.main()
