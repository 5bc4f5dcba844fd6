"""Point 9: what habits take and cost, and whether two of them are alike."""

import itertools
import unittest

from finestairs.cases import Case
from finestairs.errors import BadCalendar, BadHabit, BadOut, BadVisit
from finestairs.habits import alike, loss, shows_alike, shows_loss, spent, taken
from tests.helper import DayByDay, any_values, edge_cases, habits_of, made_cases, refused, same

TEXT = (
    "kinds plain mercy\nafter plain plain mercy\nafter mercy plain mercy\nmercy mercy top 4\n"
    "thing a due 0 2 from 1, top 20\nthing b due 3 5 from 1, lost 5 12"
)
STEPS = "kinds day\nafter day day\nthing a due 0 1 from 1\nthing b due 0 2 from 1\nthing c late 1 3 from 1"
DAYS = 40
WRONG = (
    "", " ", "row", "row ", "row a", "row a a", "row a b a", "row a b b", "row a b ", "row  a b", " row a b", "row a  b", "row a c",
    "row a, b", "Row a b", "row A b", "dearest ", " dearest", "Dearest", "dearest a", "cheapest 3", "cheapest\n", "steepest",
    "steepest ", "steepest 0", "steepest 00", "steepest 03", "steepest -3", "steepest +3", "steepest 3 4", "steepest  3", "steepest a",
    "steepest 3.0", "steepest 1_0", "steepest None", "a b", "b row a", "row b", "steep 3", "row a b dearest", "dearest, cheapest",
)


def is_habit(value):
    return value.__class__ is str and value in ("dearest", "cheapest", "row a b", "row b a", "steepest 3")


class TakenTest(unittest.TestCase):
    def test_day_by_day(self):
        for text in made_cases(48, 11) + edge_cases() + [TEXT, STEPS]:
            case, own = Case(text), DayByDay(text)
            for habit in habits_of(case):
                for out, kind, day in itertools.product(own.outs(), case.kinds, (0, 1, 2, 3, 4, 5, 7, 9, 12, 30)):
                    self.assertEqual(taken(case, habit, out, (day, kind)), own.takes(habit, out, day, kind), (text, habit, out, day))

    def test_of_several_the_first_one_of_the_case(self):
        case = Case("kinds p\nthing y due 0 2 from 1\nthing x due 0 2 from 1\nthing w due 0 1 from 1\nthing z due 0 1 from 1")
        for habit, out, told in (
            ("dearest", case.things, "y"), ("dearest", ("x", "w"), "x"), ("dearest", ("w", "z"), "w"), ("cheapest", case.things, "w"),
            ("cheapest", ("y", "x"), "y"), ("cheapest", ("y", "x", "z"), "z"), ("steepest 9", case.things, "y"), ("steepest 1", ("x", "z"), "x"),
            ("row z x y w", case.things, "z"), ("row z x y w", ("y", "w"), "y"), ("row z x y w", ("y", "x", "w"), "x"),
        ):
            self.assertEqual(taken(case, habit, out, (5, "p")), told)
        for habit in ("dearest", "cheapest", "steepest 3"):
            self.assertEqual(taken(case, habit, case.things, (0, "p")), "y")

    def test_steepest_can_go_down(self):
        case = Case("kinds p\nthing w due 0 9 from 1, lost 3 2\nthing x due 0 5 from 1, lost 4 4")
        # Two days behind day 2, w asks 16 less, and x 6 less.
        self.assertEqual(taken(case, "steepest 2", ("w", "x"), (2, "p")), "x")
        self.assertEqual(taken(case, "steepest 2", ("w",), (2, "p")), "w")

    def test_words_of_habits_as_names(self):
        case = Case("kinds p\nthing row due 0\nthing dearest due 0 1 from 1\nthing steepest due 0 2 from 1")
        self.assertEqual(taken(case, "row dearest row steepest", case.things, (1, "p")), "dearest")
        self.assertEqual(taken(case, "row row dearest steepest", case.things, (1, "p")), "row")
        self.assertEqual(taken(case, "row steepest dearest row", ("row", "dearest"), (1, "p")), "dearest")
        refused(self, BadHabit, "row dearest steepest", taken, case, "row dearest steepest", case.things, (1, "p"))

    def test_days_far_out(self):
        far = 10 ** 39
        case = Case(f"kinds p\nthing w due {far} 7 from 1\nthing x due 0 2 from 1, top {far}")
        self.assertEqual(taken(case, f"steepest {far}", case.things, (0, "p")), "x")
        self.assertEqual(taken(case, f"steepest {far}", case.things, (far, "p")), "w")
        self.assertEqual(taken(case, "dearest", case.things, (far + far // 7, "p")), "x")
        self.assertEqual(taken(case, "dearest", case.things, (far + far // 7 + 1, "p")), "w")

    def test_by_name(self):
        case = Case(TEXT)
        self.assertEqual(taken(case=case, habit="dearest", out=("a", "b"), visit=(5, "plain")), "a")
        self.assertEqual(spent(case=case, habit="dearest", calendar=((3, "plain"), (8, "mercy"))), (10, ("a", "b")))
        self.assertEqual(alike(case=case, habit="dearest", other="dearest"), ("alike",))
        self.assertIs(shows_alike(case=case, habit="dearest", other="dearest", value=("alike",)), True)
        self.assertIs(shows_loss(case=case, habit="dearest", value=loss(case=case, habit="dearest")), True)


class SpentTest(unittest.TestCase):
    def test_day_by_day(self):
        for text in made_cases(32, 12) + edge_cases():
            case, own = Case(text), DayByDay(text)
            for habit in habits_of(case):
                for calendar in own.calendars(6)[::23]:
                    told = spent(case, habit, calendar)
                    self.assertTrue(same(told, own.spent(habit, calendar)), (text, habit, calendar))

    def test_visits_on_one_day(self):
        case = Case(STEPS)
        self.assertEqual(spent(case, "dearest", ((4, "day"), (4, "day"), (4, "day"))), (27, ("c", "b", "a")))
        self.assertEqual(spent(case, "cheapest", ((4, "day"), (4, "day"), (10 ** 30, "day"))), (12 + 3 + 3 * 10 ** 30, ("a", "b", "c")))


class AlikeTest(unittest.TestCase):
    def test_against_all_visits_and_outs(self):
        found = {}
        for text in made_cases(32, 13) + edge_cases() + [STEPS]:
            case, own = Case(text), DayByDay(text)
            for habit, other in itertools.combinations(habits_of(case), 2):
                unlike = {}
                for day in range(DAYS):
                    unlike[day] = [
                        (out, (day, kind)) for out, kind in itertools.product(own.outs(), case.kinds)
                        if own.takes(habit, out, day, kind) != own.takes(other, out, day, kind)
                    ]
                    if unlike[day]:
                        break
                for one, its in ((habit, other), (other, habit)):
                    told = alike(case, one, its)
                    found[told[0]] = found.get(told[0], 0) + 1
                    self.assertIs(shows_alike(case, one, its, told), True)
                    if told == ("alike",):
                        self.assertEqual(unlike[day], [], (text, one, its))
                    else:
                        self.assertEqual((told[0], len(told)), ("apart", 3))
                        self.assertIn(told[1:], unlike[day], (text, one, its))
        self.assertGreater(min(found.values()), 20, found)

    def test_shows_just_the_right_visits(self):
        for text in made_cases(32, 19)[5::7] + edge_cases()[3:9]:
            case, own = Case(text), DayByDay(text)
            for habit, other in itertools.combinations(habits_of(case)[:4], 2):
                told = alike(case, habit, other)
                first = None if told == ("alike",) else told[2][0]
                for out, visit in itertools.product(own.outs(), itertools.product((0, first or 1, 6), case.kinds)):
                    unlike = own.takes(habit, out, *visit) != own.takes(other, out, *visit)
                    right = unlike and visit[0] == first
                    self.assertIs(shows_alike(case, habit, other, ("apart", out, visit)), right, (text, habit, other, out, visit))

    def test_the_same_habit(self):
        for text in edge_cases():
            case = Case(text)
            for habit in habits_of(case):
                self.assertEqual(alike(case, habit, habit), ("alike",))

    def test_one_thing_alone_and_things_that_are_alike(self):
        case = Case("kinds p\nthing w due 0 2 from 1")
        for habit, other in itertools.product(habits_of(case), repeat=2):
            self.assertEqual(alike(case, habit, other), ("alike",))
            self.assertIs(shows_alike(case, habit, other, ("apart", ("w",), (0, "p"))), False)
        case = Case("kinds p\nthing w due 0 2 from 1\nthing x due 0 2 from 1")
        for habit, other in itertools.product(("dearest", "cheapest", "steepest 3", "row w x"), repeat=2):
            self.assertEqual(alike(case, habit, other), ("alike",))
        self.assertEqual(alike(case, "dearest", "row x w"), ("apart", ("w", "x"), (0, "p")))

    def test_days_far_out(self):
        far = 10 ** 39
        case = Case(f"kinds p q\nmercy q none\nthing w due {far} 7 from 1\nthing x due 0 2 from 1, top {far}")
        self.assertEqual(alike(case, "dearest", "row x w"), ("apart", ("w", "x"), (0, "p")))
        self.assertEqual(alike(case, "dearest", "row w x"), ("apart", ("w", "x"), (1, "p")))
        case = Case(f"kinds p q\nmercy q top {far}\nthing w due 0 {far} from 1\nthing x due 0 {far} from 1, lost {far} 0")
        self.assertEqual(alike(case, "dearest", "cheapest"), ("apart", ("w", "x"), (far, "p")))
        told = ("apart", ("w", "x"), (far, "q"))
        self.assertIs(shows_alike(case, "dearest", "cheapest", told), True)
        self.assertIs(shows_alike(case, "dearest", "cheapest", ("apart", ("w", "x"), (far + 1, "p"))), False)


class WrongTest(unittest.TestCase):
    def test_habits(self):
        case = Case(TEXT)
        for value in [*any_values(), *WRONG]:
            if not is_habit(value):
                refused(self, BadHabit, value, taken, case, value, ("a", "b"), (0, "plain"))
                refused(self, BadHabit, value, taken, case, value, value, value)
                refused(self, BadHabit, value, spent, case, value, ((0, "plain"), (0, "plain")))
                refused(self, BadHabit, value, spent, case, value, value)
                refused(self, BadHabit, value, loss, case, value)
                refused(self, BadHabit, value, shows_loss, case, value, None)
                refused(self, BadHabit, value, shows_loss, case, value, ("most", 0, ()))
                refused(self, BadHabit, value, alike, case, value, "dearest")
                refused(self, BadHabit, value, alike, case, "dearest", value)
                refused(self, BadHabit, value, alike, case, value, 3)
                refused(self, BadHabit, value, shows_alike, case, value, "dearest", ("alike",))
                refused(self, BadHabit, value, shows_alike, case, "dearest", value, None)

    def test_outs(self):
        case = Case(TEXT)
        outs = [("b", "a"), ("a", "a"), ("a", "b", "b"), ("a", "c"), ["a"], "a", ("a", None), ("plain",), (("a",),), ("ab",), ("a", "b", "c")]
        for value in any_values() + outs:
            if value not in (("a",), ("a", "b")):
                refused(self, BadOut, value, taken, case, "dearest", value, (0, "plain"))
                refused(self, BadOut, value, taken, case, "dearest", value, value)

    def test_visits(self):
        case = Case(TEXT)
        visits = [
            (-1, "plain"), (True, "plain"), (0, "a"), (0, "Plain"), [0, "plain"], (0, "plain", 0), (0,), ("0", "plain"), (0, None), (0, ["plain"]),
            (None, "plain"), ((0,), "plain"), "plain", ((0, "plain"),),
        ]
        for value in any_values() + visits:
            if value != (0, "plain"):
                refused(self, BadVisit, value, taken, case, "dearest", ("a", "b"), value)

    def test_calendars(self):
        case = Case(TEXT)
        calendar = ((3, "plain"), (8, "mercy"))
        wrong = [
            calendar[:1], (*calendar, (9, "plain")), list(calendar), calendar[::-1], ((3, "plain"), (3, "mercy")), ((True, "plain"), (8, "mercy")),
            ((3, "plain"), [8, "mercy"]), ((3, "plain"), (8, "a")),
        ]
        for value in any_values() + wrong:
            if value != ((0, "plain"), (1, "plain")):
                refused(self, BadCalendar, value, spent, case, "dearest", value)

    def test_any_value_is_shown_alike_or_not(self):
        case = Case(TEXT)
        for habit, other in (("dearest", "dearest"), ("dearest", "cheapest")):
            told = alike(case, habit, other)
            for value in any_values():
                self.assertIs(shows_alike(case, habit, other, value), same(value, told))
                for at in range(len(told)):
                    changed = (*told[:at], value, *told[at + 1:])
                    self.assertIs(shows_alike(case, habit, other, changed), same(changed, told), changed)
            for value in (list(told), (*told, None), told[:-1], (told,), "alike", ("alike", ()), ("Apart", *told[1:])):
                self.assertIs(shows_alike(case, habit, other, value), False)

    def test_apart_otherwise(self):
        case = Case(TEXT)
        self.assertEqual(alike(case, "dearest", "cheapest"), ("apart", ("a", "b"), (1, "plain")))
        for out, visit, right in (
            (("a", "b"), (1, "plain"), True), (("a", "b"), (1, "mercy"), True), (("a", "b"), (2, "plain"), False), (("a", "b"), (0, "plain"), False),
            (("a",), (1, "plain"), False), (("b", "a"), (1, "plain"), False), (["a", "b"], (1, "plain"), False), (("a", "b"), (True, "plain"), False),
            (("a", "b"), (1, "a"), False), (("a", "b"), [1, "plain"], False), ((), (1, "plain"), False), (("a", "b", "b"), (1, "plain"), False),
        ):
            self.assertIs(shows_alike(case, "dearest", "cheapest", ("apart", out, visit)), right, (out, visit))
        self.assertIs(shows_alike(case, "dearest", "cheapest", ("alike",)), False)
        self.assertIs(shows_alike(case, "dearest", "dearest", ("apart", ("a", "b"), (1, "plain"))), False)


if __name__ == "__main__":
    unittest.main()
