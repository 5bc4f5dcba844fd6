"""Point 9: what habits lose at the worst, and what shows it."""

import itertools
import random
import unittest

from finestairs.cases import Case
from finestairs.habits import loss, shows_loss, spent
from finestairs.ranks import best, ranked
from tests.helper import DayByDay, any_values, edge_cases, habits_of, made_cases, moved, same

TEXT = (
    "kinds plain mercy\nafter plain plain mercy\nafter mercy plain mercy\nmercy mercy top 4\n"
    "thing a due 0 2 from 1, top 20\nthing b due 3 5 from 1, lost 5 12"
)
STEPS = "kinds day\nafter day day\nthing a due 0 1 from 1\nthing b due 0 2 from 1\nthing c late 1 3 from 1"
DAYS = 20
FAR = 30


def is_calendar(own, calendar):
    """Whether each visit can follow the one ahead."""
    return len(calendar) == len(own.things) and all(
        one == other or (one[0] < other[0] and other[1] in own.after[one[1]])
        for one, other in zip(calendar, calendar[1:])
    )


def is_endless(own, habit, calendar, number, most=FAR):
    """Whether moving this visit, and all behind it, on loses more and more, day by day."""
    rows = [moved(calendar, number, days) for days in range(most)]
    return all(is_calendar(own, row) for row in rows) and all(
        own.lost(habit, row) >= days for days, row in enumerate(rows)
    )


class LossTest(unittest.TestCase):
    def told(self, own, case, habit):
        """What is told, after looking at the calendar of it day by day."""
        told = loss(case, habit)
        self.assertEqual((told.__class__, len(told)), (tuple, 3))
        self.assertIs(shows_loss(case, habit, told), True)
        if told[0] == "most":
            self.assertTrue(is_calendar(own, told[2]))
            self.assertEqual(own.lost(habit, told[2]), told[1])
            self.assertEqual(spent(case, habit, told[2])[0] - best(case, told[2])[0], told[1])
        else:
            self.assertEqual(told[0], "endless")
            self.assertIs(told[2].__class__, int)
            self.assertTrue(is_endless(own, habit, told[1], told[2]))
        return told

    def test_against_all_calendars_and_rows(self):
        many = 0
        for text in [*edge_cases(), *made_cases(96, 14)]:
            case, own = Case(text), DayByDay(text)
            if len(case) * len(case.kinds) < 7:
                calendars = own.calendars(9)[:4000]
                for habit in habits_of(case)[::2]:
                    told = self.told(own, case, habit)
                    if told[0] == "most":
                        with self.subTest(text=text, habit=habit):
                            lost = [own.lost(habit, calendar) for calendar in calendars]
                            self.assertLessEqual(max(lost), told[1])
                            many += max(lost) == told[1]
        self.assertGreater(many, 100)

    def test_against_all_days_by_what_is_left(self):
        found = {}
        for text in made_cases(80, 15) + edge_cases() + [TEXT, STEPS]:
            case, own = Case(text), DayByDay(text)
            for habit in habits_of(case)[:5]:
                with self.subTest(text=text, habit=habit):
                    told = self.told(own, case, habit)
                    found[told[0], len(case)] = found.get((told[0], len(case)), 0) + 1
                    if told[0] == "most":
                        self.assertEqual(own.most_lost(habit, DAYS), told[1])
        self.assertGreater(min(found[word, many] for word in ("most", "endless") for many in (2, 3, 4)), 5, found)

    def test_endless_from_each_visit(self):
        found = {}
        for text in made_cases(240, 16):
            case, own = Case(text), DayByDay(text)
            for habit in ("dearest", "cheapest", "row " + " ".join(case.things[::-1])):
                told = self.told(own, case, habit)
                if told[0] == "endless":
                    found[told[2]] = found.get(told[2], 0) + 1
        self.assertEqual(sorted(found), [0, 1, 2, 3])

    def test_no_calendar_loses_more(self):
        chance = random.Random(17)
        for text in made_cases(64, 17):
            case, own = Case(text), DayByDay(text)
            for habit in habits_of(case)[:5]:
                told = loss(case, habit)
                for _ in range(40):
                    calendar = [(chance.randint(0, 12), chance.choice(case.kinds))]
                    while len(calendar) < len(case):
                        day, kind = calendar[-1]
                        later = (day + chance.randint(1, 5), chance.choice(own.after[kind] or [kind]))
                        calendar.append(chance.choice([calendar[-1], later if own.after[kind] else calendar[-1]]))
                    if told[0] == "most":
                        self.assertLessEqual(own.lost(habit, calendar), told[1], (text, habit, calendar))

    def test_a_row_that_is_best_loses_nothing(self):
        for text in made_cases(96, 18) + edge_cases():
            case = Case(text)
            told = ranked(case)
            if told[0] == "row":
                self.assertEqual(loss(case, " ".join(["row", *told[1]]))[:2], ("most", 0))

    def test_one_thing_alone(self):
        case = Case("kinds p\nafter p p\nthing w due 0 2 from 1")
        for habit in ("dearest", "cheapest", "steepest 3", "row w"):
            told = loss(case, habit)
            self.assertEqual((told[:2], len(told[2])), (("most", 0), 1))
            self.assertIs(shows_loss(case, habit, ("most", 0, ((10 ** 39, "p"),))), True)
            self.assertIs(shows_loss(case, habit, ("endless", ((0, "p"),), 0)), False)

    def test_kinds_behind_which_nothing_comes(self):
        # All things are brought on one visit, so each row costs the same.
        case = Case("kinds p q\nmercy q none\nthing w due 0 2 from 1\nthing x due 0 9 from 1, lost 4 1\nthing y due 1")
        for habit in habits_of(case):
            self.assertEqual(loss(case, habit)[:2], ("most", 0))
        # What comes behind a visit of kind p costs nothing, so only what is brought on this one counts.
        case = Case("kinds p q\nafter p q\nmercy q none\nthing w due 0 2 from 1, top 8\nthing x due 0 3 from 1, top 9")
        for habit, most in (("cheapest", 0), ("row w x", 0), ("dearest", 3), ("row x w", 3)):
            self.assertEqual(loss(case, habit)[:2], ("most", most))
        self.assertIs(shows_loss(case, "dearest", ("most", 3, ((3, "p"), (10 ** 20, "q")))), True)
        self.assertIs(shows_loss(case, "dearest", ("most", 3, ((3, "p"), (10 ** 20, "p")))), False)

    def test_rises_on_one_day_alone_are_not_endless(self):
        # What differs between things grows without end, but a kind behind which it cannot come again ends it.
        case = Case("kinds p\nthing w due 0 2 from 1\nthing x due 0 3 from 1")
        self.assertEqual(loss(case, "cheapest")[:2], ("most", 0))
        case = case.told(1, "kinds p q")
        self.assertEqual([loss(case, habit)[1] for habit in habits_of(case)], [0] * len(habits_of(case)))
        text = "kinds p q\nafter p q\nmercy q none\nthing w due 0 2 from 1\nthing x due 0 3 from 1\nthing y due 0 1 from 1"
        self.assertEqual(loss(Case(text), "cheapest")[:2], ("most", 0))
        told = loss(Case(text), "dearest")
        self.assertEqual((told[0], told[2]), ("endless", 0))
        for number, right in ((0, True), (1, False), (2, False), (3, False), (-1, False), (-2, False), (-3, False), (False, False)):
            self.assertIs(shows_loss(Case(text), "dearest", ("endless", told[1], number)), right)

    def test_days_far_out(self):
        far, much = 10 ** 20, 10 ** 39
        case = Case(f"kinds p\nafter p p\nthing w due {far} {much} from {far}, lost {3 * far} 7\nthing x due {2 * far} 5 from 1")
        for habit in ("dearest", "cheapest", f"steepest {far}", "row w x", "row x w"):
            told = loss(case, habit)
            self.assertIs(shows_loss(case, habit, told), True)
        told = loss(case, "row x w")
        self.assertEqual(told[0], "most")
        calendar = ((0, "p"), (4 * far - 1, "p"))
        self.assertGreaterEqual(told[1], spent(case, "row x w", calendar)[0] - best(case, calendar)[0])
        case = Case(f"kinds p q\nafter p q\nmercy q top {much}\nthing w due {far} 2 from 1\nthing x due {2 * far} 5 from 1")
        for habit in ("dearest", "cheapest", f"steepest {much}", "row w x", "row x w"):
            told = loss(case, habit)
            self.assertIs(shows_loss(case, habit, told), True)
            self.assertIs(shows_loss(case, habit, ("endless", ((far, "p"), (far + 1, "q")), 0)), False)

    def test_equal_calls(self):
        for text in (TEXT, STEPS):
            for habit in habits_of(Case(text)):
                self.assertTrue(same(loss(Case(text), habit), loss(Case(text), habit)))


class ShowsLossTest(unittest.TestCase):
    def test_just_the_right_calendars(self):
        for text in made_cases(48, 20)[::5] + [TEXT, STEPS]:
            case, own = Case(text), DayByDay(text)
            for habit in habits_of(case)[1:4:2]:
                told = loss(case, habit)
                for calendar in own.calendars(7 if len(case) < 3 else 4)[::31]:
                    lost = own.lost(habit, calendar)
                    right = told[0] == "most" and lost == told[1]
                    if right or calendar[0][0] == 1:
                        self.assertIs(shows_loss(case, habit, ("most", lost, calendar)), right)
                    self.assertIs(shows_loss(case, habit, ("most", lost + 1, calendar)), False)

    def test_just_the_right_endless_calendars(self):
        rights = 0
        for text in [text for text in made_cases(160, 21) if len(Case(text)) > 1][::4] + [STEPS, TEXT, edge_cases()[7]]:
            case, own = Case(text), DayByDay(text)
            for habit in habits_of(case)[:4]:
                for calendar in own.calendars(6 if len(case) < 3 else 4)[::53]:
                    for number in range(len(case)):
                        right = is_endless(own, habit, calendar, number)
                        rights += right
                        self.assertIs(shows_loss(case, habit, ("endless", calendar, number)), right, (text, habit, calendar, number))
        self.assertGreater(rights, 40)

    def test_moving_on_from_one_day(self):
        # The second visit stands on the day of the first one, and can only be moved on if its kind can come again.
        text = "kinds p q\nafter p q\nafter q q\nmercy q less 1\nthing w due 0 5 from 1, top 5\nthing x due 0 1 from 1"
        case = Case(text)
        self.assertIs(shows_loss(case, "row w x", ("endless", ((6, "p"), (7, "q")), 1)), True)
        self.assertIs(shows_loss(case, "row w x", ("endless", ((6, "q"), (6, "q")), 1)), True)
        self.assertIs(shows_loss(case, "row w x", ("endless", ((6, "p"), (6, "p")), 1)), False)
        self.assertIs(shows_loss(case, "row w x", ("endless", ((6, "p"), (7, "q")), 0)), False)
        self.assertIs(shows_loss(case, "row x w", ("endless", ((6, "p"), (7, "q")), 1)), False)

    def test_any_value(self):
        for text, habit in ((TEXT, "dearest"), (STEPS, "dearest")):
            case = Case(text)
            told = loss(case, habit)
            for value in any_values():
                self.assertIs(shows_loss(case, habit, value), False)
                for at in range(3):
                    other = (*told[:at], value, *told[at + 1:])
                    self.assertIs(shows_loss(case, habit, other), same(other, told), other)
            for other in (list(told), (*told, 0), told[:2], (told,), told[::-1], ("Most", *told[1:]), ("never", *told[1:])):
                self.assertIs(shows_loss(case, habit, other), False)

    def test_otherwise_by_a_number_a_day_or_a_kind(self):
        case = Case(TEXT)
        right = ("most", 12, ((3, "plain"), (7, "plain")))
        self.assertIs(shows_loss(case, "row a b", right), True)
        for value in (
            ("most", 11, right[2]), ("most", 13, right[2]), ("most", "12", right[2]), ("most", 12, list(right[2])),
            ("most", 12, right[2][:1]), ("most", 12, (*right[2], (8, "plain"))), ("most", 12, right[2][::-1]), ("most", -12, right[2]),
            ("most", 12, ((3, "plain"), (6, "plain"))), ("most", 12, ((3, "plain"), (8, "plain"))), ("most", 12, ((4, "plain"), (7, "plain"))),
            ("most", 12, ((3, "plain"), (7, "mercy"))), ("most", 12, ((3, "plain"), [7, "plain"])), ("endless", right[2], 0),
            ("most", 10, ((4, "plain"), (7, "plain"))), ("most", right[2], 12), ("endless", right[2], 1), ("most", 0, ((0, "plain"), (0, "plain"))),
        ):
            self.assertIs(shows_loss(case, "row a b", value), False, value)
        self.assertIs(shows_loss(case, "row b a", right), False)
        steps = Case(STEPS)
        right = ("endless", ((0, "day"), (0, "day"), (9, "day")), 2)
        self.assertIs(shows_loss(steps, "row a b c", right), True)
        for value in (
            ("endless", right[1], 3), ("endless", right[1], -1), ("endless", right[1], True), ("endless", right[1], None), ("endless", right[1], "2"),
            ("endless", right[1], 0), ("endless", right[1][:2], 1), ("endless", right[1][::-1], 2), ("most", *right[1:]), ("most", right[2], right[1]),
            ("endless", list(right[1]), 2), ("endless", ((0, "day"), (False, "day"), (9, "day")), 2), ("endless", 2, right[1]),
        ):
            self.assertIs(shows_loss(steps, "row a b c", value), False, value)
        self.assertIs(shows_loss(steps, "row a b c", ("endless", right[1], 1)), True)
        self.assertIs(shows_loss(steps, "row c b a", right), False)
        # None is lost, and True is not 1, False not 0.
        self.assertIs(shows_loss(steps, "row c b a", ("most", 0, right[1])), True)
        self.assertIs(shows_loss(steps, "row c b a", ("most", False, right[1])), False)

    def test_great_numbers_of_visits_that_are_moved(self):
        steps, far = Case(STEPS), 10 ** 60
        self.assertIs(shows_loss(steps, "row a b c", ("endless", ((far, "day"), (2 * far, "day"), (3 * far, "day")), 2)), True)
        self.assertIs(shows_loss(steps, "row c b a", ("endless", ((far, "day"), (2 * far, "day"), (3 * far, "day")), 2)), False)


if __name__ == "__main__":
    unittest.main()
