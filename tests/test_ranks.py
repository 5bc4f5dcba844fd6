"""Point 8: what rows cost, and one row for all calendars."""

import itertools
import unittest

from finestairs.cases import Case
from finestairs.errors import BadCalendar, BadRow
from finestairs.ranks import best, cost, ranked, shows_ranked
from finestairs.stairs import Stairs
from tests.helper import DayByDay, any_values, edge_cases, made_cases, refused, same

TEXT = (
    "kinds plain mercy\nafter plain plain mercy\nafter mercy plain mercy\nmercy mercy top 4\n"
    "thing a due 0 2 from 1, top 20\nthing b due 3 5 from 1, lost 5 12"
)
STEPS = "kinds day\nafter day day\nthing a due 0 1 from 1\nthing b due 0 2 from 1\nthing c late 1 3 from 1"
DAYS = 16
FAR = 40


class CostTest(unittest.TestCase):
    def test_against_each_row(self):
        for text in made_cases(32, 6) + edge_cases():
            case, own = Case(text), DayByDay(text)
            rows = list(itertools.permutations(case.things))
            for calendar in own.calendars(4)[::7]:
                costs = {row: own.cost(row, calendar) for row in rows}
                self.assertEqual({row: cost(case, row, calendar) for row in rows}, costs)
                least, row = best(case, calendar)
                self.assertEqual((least, costs[row]), (min(costs.values()), min(costs.values())))
                self.assertIs(best(case, calendar).__class__, tuple)

    def test_days_far_out(self):
        far = 10 ** 39
        case = Case(f"kinds p\nafter p p\nthing w due {far} {far} from {far}\nthing x late {far} 1 from 1")
        calendar = ((0, "p"), (3 * far, "p"))
        self.assertEqual(cost(case, ("x", "w"), calendar), far + far * (far + 1))
        self.assertEqual(cost(case, ("w", "x"), calendar), 4 * far)
        self.assertEqual(best(case, calendar), (4 * far, ("w", "x")))

    def test_visits_on_one_day(self):
        case = Case("kinds p q\nthing w due 0 1 from 1\nthing x due 0 2 from 1")
        self.assertEqual(cost(case, ("w", "x"), ((5, "p"), (5, "p"))), 15)
        for calendar in (((5, "p"), (5, "q")), ((5, "p"), (6, "p"))):
            refused(self, BadCalendar, calendar, cost, case, ("w", "x"), calendar)
            refused(self, BadCalendar, calendar, best, case, calendar)
        self.assertEqual(best(Case("kinds p\nthing w due 0 1 from 1"), ((5, "p"),)), (5, ("w",)))

    def test_by_name(self):
        case, calendar = Case(TEXT), ((3, "plain"), (8, "mercy"))
        self.assertEqual(cost(case=case, row=("a", "b"), calendar=calendar), 10)
        self.assertEqual(best(case=case, calendar=calendar), (4, ("b", "a")))


class RankedTest(unittest.TestCase):
    def floors(self, own, one, other, told):
        """That these are floors of what one asks more than the other, day by day."""
        more = lambda kind, day: own.number(one, kind, day) - own.number(other, kind, day)
        self.assertEqual((told.__class__, len(told)), (tuple, len(own.kinds)))
        for kind, floor in zip(own.kinds, told):
            for day in range(FAR):
                self.assertGreaterEqual(floor[day], more(kind, day))
                self.assertLessEqual(floor[day], floor[day + 1])
                for behind in own.after[kind]:
                    self.assertLessEqual(floor[day], more(behind, day + 1))

    def test_against_all_visits_and_rows(self):
        found = {}
        for text in made_cases(160, 7) + edge_cases() + [TEXT, STEPS]:
            with self.subTest(text=text):
                case, own = Case(text), DayByDay(text)
                told = ranked(case)
                self.assertIs(shows_ranked(case, told), True)
                found[told[0], len(case)] = found.get((told[0], len(case)), 0) + 1
                ahead = {
                    pair: own.can_go_ahead(*pair, DAYS) for pair in itertools.permutations(case.things, 2)
                }
                rows = [
                    row for row in itertools.permutations(case.things)
                    if all(ahead[pair] for pair in itertools.combinations(row, 2))
                ]
                if told[0] == "row":
                    self.assertEqual((len(told), len(told[2]), told[2].__class__), (3, len(case) - 1, tuple))
                    self.assertIn(told[1], rows)
                    for one, other, floors in zip(told[1], told[1][1:], told[2]):
                        self.floors(own, one, other, floors)
                else:
                    self.assertEqual((told[0], len(told), rows), ("none", 5, []))
                    _, one, other, calendar, back = told
                    self.assertFalse(ahead[one, other] or ahead[other, one])
                    for visits, sign in ((calendar, 1), (back, -1)):
                        (day, kind), (then, behind) = visits
                        self.assertTrue(day < then and behind in own.after[kind])
                        more = own.cost((one, other), visits) - own.cost((other, one), visits)
                        self.assertGreater(more * sign, 0)
        self.assertGreater(min(found["row", 2], found["row", 3], found["row", 4], found["none", 3]), 3, found)

    def test_the_row_costs_as_little_as_any(self):
        for text in made_cases(64, 8) + edge_cases() + [STEPS]:
            case, own = Case(text), DayByDay(text)
            told = ranked(case)
            if told[0] == "row":
                for calendar in own.calendars(5)[::11]:
                    self.assertEqual(cost(case, told[1], calendar), own.least(calendar))

    def test_shows_just_the_right_rows(self):
        for text in made_cases(80, 9)[4:] + [STEPS]:
            case, own = Case(text), DayByDay(text)
            for row in itertools.permutations(case.things):
                right = all(own.can_go_ahead(*pair, DAYS) for pair in zip(row, row[1:]))
                floors = tuple(
                    tuple((case.bill(one, kind) - case.bill(other, kind)).so_far for kind in case.kinds)
                    for one, other in zip(row, row[1:])
                )
                self.assertIs(shows_ranked(case, ("row", row, floors)), right, (text, row))

    def test_shows_just_the_right_visits(self):
        for text in [TEXT, *[text for text in made_cases(64, 10) if len(Case(text)) > 1][:12]]:
            case, own = Case(text), DayByDay(text)
            pairs = list(own.pairs(6))
            for one, other in itertools.permutations(case.things, 2):
                more = {pair: own.cost((one, other), pair) - own.cost((other, one), pair) for pair in pairs}
                signs = {}
                for pair in pairs:
                    signs.setdefault((more[pair] > 0) - (more[pair] < 0), pair)
                for (high, calendar), (low, back) in itertools.product(signs.items(), repeat=2):
                    value = ("none", one, other, calendar, back)
                    self.assertIs(shows_ranked(case, value), high > 0 > low, value)

    def test_one_thing_alone(self):
        case = Case("kinds p q\nafter p q\nthing w due 0 2 from 1, lost 4 1")
        self.assertEqual(ranked(case), ("row", ("w",), ()))
        self.assertIs(shows_ranked(case, ("row", ("w",), ())), True)
        for value in (("row", ("w",), None), ("row", ("w",), []), ("row", "w", ()), ("row", (), ()), ("row", ("w", "w"), ())):
            self.assertIs(shows_ranked(case, value), False)
        self.assertIs(shows_ranked(case, ("none", "w", "w", ((0, "p"), (1, "q")), ((3, "p"), (5, "q")))), False)

    def test_things_that_are_alike(self):
        text = "kinds p\nafter p p\nthing w due 0 2 from 1, lost 4 1\nthing x due 0 2 from 1, lost 4 1\nthing y due 0 2 from 1, lost 4 1"
        case = Case(text)
        zero = (Stairs(((0, 0, 0),)),)
        self.assertEqual(ranked(case)[0], "row")
        for row in itertools.permutations(case.things):
            self.assertIs(shows_ranked(case, ("row", row, (zero, zero))), True)
            self.assertIs(shows_ranked(case, ("row", row, (zero,))), False)
            self.assertIs(shows_ranked(case, ("row", row, (zero, zero, zero))), False)

    def test_kinds_behind_which_nothing_comes(self):
        case = Case("kinds p q\nthing w due 0 2 from 1, lost 4 1\nthing x due 1 9 from 1")
        self.assertEqual(ranked(case)[0], "row")
        floors = tuple((case.bill("x", kind) - case.bill("w", kind)).so_far for kind in case.kinds)
        self.assertIs(shows_ranked(case, ("row", ("x", "w"), (floors,))), True)

    def test_falls_and_rises_without_end(self):
        case = Case(STEPS)
        self.assertEqual(ranked(case)[:2], ("row", ("c", "b", "a")))
        case = case.told(3, "thing a due 9 3 from 1")
        # a falls behind b up to day 9, and comes up then.
        self.assertEqual(ranked(case)[:3], ("none", "a", "b"))
        case = case.told(3, "thing a due 9 1 from 1")
        self.assertEqual(ranked(case)[:2], ("row", ("c", "b", "a")))

    def test_days_far_out(self):
        far = 10 ** 20
        case = Case(f"kinds p\nafter p p\nthing w due {far} 3 from 1\nthing x due {2 * far} 5 from 1")
        told = ranked(case)
        self.assertEqual(told[:3], ("none", "w", "x"))
        self.assertIs(shows_ranked(case, told), True)
        self.assertIs(shows_ranked(case, ("none", "w", "x", ((2 * far, "p"), (10 ** 39, "p")), ((far, "p"), (far + 1, "p")))), True)
        self.assertIs(shows_ranked(case, ("none", "w", "x", ((2 * far, "p"), (2 * far, "p")), ((far, "p"), (far + 1, "p")))), False)
        case = Case(f"kinds p\nafter p p\nthing w due {far} 3 from 1, top {far}\nthing x due {2 * far} 5 from 1")
        told = ranked(case.told(4, f"thing x due {far} 5 from 1"))
        self.assertEqual(told[:2], ("row", ("x", "w")))

    def test_by_name_and_equal_calls(self):
        for text in (TEXT, STEPS):
            told = ranked(case=Case(text))
            self.assertTrue(same(told, ranked(Case(text))))
            self.assertIs(shows_ranked(case=Case(text), value=told), True)


class WrongTest(unittest.TestCase):
    def test_rows_and_calendars(self):
        case, row, calendar = Case(TEXT), ("a", "b"), ((3, "plain"), (8, "mercy"))
        rows = [("a",), ("a", "a"), ("a", "b", "a"), ("a", "b", "b"), ["a", "b"], ("a", "c"), ("a", None), ("a", ["b"]), "ab", ("b", ("a",))]
        for value in any_values() + rows:
            if value not in (("a", "b"), ("b", "a")):
                refused(self, BadRow, value, cost, case, value, calendar)
                refused(self, BadRow, value, cost, case, value, value)
        calendars = [
            calendar[:1], (*calendar, (9, "plain")), list(calendar), calendar[::-1], ((3, "plain"), [8, "mercy"]), ((3, "plain"), (3, "mercy")),
            ((3, "plain"), (8, "a")), ((-1, "plain"), (8, "mercy")), ((True, "plain"), (8, "mercy")), ((3, "plain"), ("8", "mercy")),
            ((3, "plain"), (8, "mercy", 0)), ((3, "plain"), (8,)), ((3, "plain"), None), ((3, ("plain",)), (8, "mercy")), ((3.0, "plain"), (8, "mercy")),
            ((3, "plain"), (2, "plain")), {(3, "plain"): 0, (8, "mercy"): 1}, ((3, True), (8, "mercy")), ((3, None), (3, None)),
        ]
        for value in any_values() + calendars:
            if value != ((0, "plain"), (1, "plain")):
                refused(self, BadCalendar, value, cost, case, row, value)
                refused(self, BadCalendar, value, best, case, value)

    def test_a_kind_that_cannot_come(self):
        case = Case("kinds p q\nafter p q\nthing w due 0\nthing x due 0")
        for value in (((0, "p"), (1, "p")), ((0, "q"), (1, "p")), ((0, "q"), (1, "q")), ((0, "p"), (0, "q"))):
            refused(self, BadCalendar, value, best, case, value)
        self.assertEqual(best(case, ((0, "p"), (1, "q")))[0], 0)

    def test_any_value_is_shown_or_not(self):
        for text in (TEXT, STEPS):
            case = Case(text)
            told = ranked(case)
            for value in any_values():
                self.assertIs(shows_ranked(case, value), False)
                for at in range(len(told)):
                    other = (*told[:at], value, *told[at + 1:])
                    self.assertIs(shows_ranked(case, other), same(value, told[at]), other)
            for other in (list(told), (*told, None), told[:-1], (told,), (told[0].upper(), *told[1:])):
                self.assertIs(shows_ranked(case, other), False)

    def test_otherwise_by_a_word_a_day_or_stairs(self):
        case = Case(TEXT)
        calendar, back = ((3, "plain"), (4, "plain")), ((0, "plain"), (1, "plain"))
        self.assertIs(shows_ranked(case, ("none", "a", "b", calendar, back)), True)
        self.assertIs(shows_ranked(case, ("none", "b", "a", back, calendar)), True)
        for value in (
            ("none", "b", "a", calendar, back), ("none", "a", "b", back, calendar), ("none", "a", "a", calendar, back),
            ("none", "a", "c", calendar, back), ("none", "a", "b", calendar, calendar), ("none", "a", "b", calendar[::-1], back),
            ("none", "a", "b", ((3, "plain"), (3, "plain")), back), ("none", "a", "b", list(calendar), back), ("row", "a", "b", calendar, back),
            ("none", "a", "b", calendar, (*back, (3, "plain"))), ("none", "a", "b", calendar, back[:1]), ("none", "a", "plain", calendar, back),
            ("none", "a", "b", ((True, "plain"), (4, "plain")), back), ("none", "a", "b", calendar, ((0, "plain"), (True, "plain"))),
            ("none", ["a"], "b", calendar, back), ("none", "a", None, calendar, back), ("row", ("a", "b"), ((Stairs(((0, 0, 0),)),) * 2,)),
        ):
            self.assertIs(shows_ranked(case, value), False, value)
        steps = Case(STEPS)
        right = ((Stairs(((0, 3, 1),)),), (Stairs(((0, 0, 1),)),))
        self.assertIs(shows_ranked(steps, ("row", ("c", "b", "a"), right)), True)
        self.assertIs(shows_ranked(steps, ("row", ("c", "b", "a"), ((Stairs(((0, 4, 1),)),), right[1]))), True)
        for value in (
            ("row", ("c", "a", "b"), right), ("row", ("a", "b", "c"), right), ("row", ["c", "b", "a"], right), ("row", ("c", "b"), right),
            ("row", ("c", "b", "a"), right[::-1]), ("row", ("c", "b", "a"), list(right)), ("row", ("c", "b", "a"), right[:1]),
            ("row", ("c", "b", "a"), (right[0][0], right[1][0])), ("row", ("c", "b", "a"), ([right[0][0]], right[1])),
            ("row", ("c", "b", "a"), ((Stairs(((0, 5, 1),)),), right[1])), ("row", ("c", "b", "a"), ((Stairs(((0, 2, 1),)),), right[1])),
            ("row", ("c", "b", "a"), ((right[0][0],) * 2, right[1])), ("row", ("c", "b", "a"), ((), right[1])),
            ("row", ("c", "b", "a"), ((Stairs(((0, 3, 1), (9, 11, 0), (10, 13, 1))),), right[1])), ("none", ("c", "b", "a"), right),
        ):
            self.assertIs(shows_ranked(steps, value), False, value)


if __name__ == "__main__":
    unittest.main()
