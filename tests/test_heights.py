"""Point 10: heights, and what shows them."""

import itertools
import random
import unittest

from finestairs.cases import Case
from finestairs.errors import BadHabit, BadRow, Endless
from finestairs.habits import loss
from finestairs.heights import heights, shows_heights
from finestairs.stairs import Stairs
from tests.helper import DayByDay, any_values, edge_cases, habits_of, made_cases, refused, same

TEXT = (
    "kinds plain mercy\nafter plain plain mercy\nafter mercy plain mercy\nmercy mercy top 4\n"
    "thing a due 0 2 from 1, top 20\nthing b due 3 5 from 1, lost 5 12"
)
STEPS = "kinds day\nafter day day\nthing a due 0 1 from 1\nthing b due 0 2 from 1\nthing c late 1 3 from 1"
DAYS = 24
FAR = 36


def told_or_none(case, habit, row):
    """What heights tells, None where it is Endless."""
    try:
        return heights(case, habit, row)
    except Endless as error:
        assert error.value is row
        return None


def rows_to_try(case):
    """Some rows of all things."""
    names = list(case.things)
    return sorted({tuple(names), tuple(names[::-1]), tuple(names[1:] + names[:1]), tuple(names[-1:] + names[:-1])})


def in_days(stretches, many=FAR):
    """The first days that are in some stretches."""
    return [day for day in range(many) if any(first <= day and (last is None or day <= last) for first, last in stretches)]


def are_stretches(days):
    """Whether these are one or more stretches, ascending, as few as can be, by their days."""
    found = in_days(days)
    gaps = [day for day in found if day - 1 not in found]
    return bool(days) and [first for first, _ in days] == gaps and all(last is None for _, last in days[-1:] if FAR - 1 in found)


def holds(own, habit, row, number, rows):
    """Whether rows are as they must be beside one another, day by day."""
    by_place = {(out, kind): (in_days(days), stairs) for out, kind, days, stairs in rows}
    for kind in own.kinds:
        if (own.things, kind) not in by_place:
            return False
        days, stairs = by_place[own.things, kind]
        if len(days) != FAR or stairs.top is None or max(stairs[day] for day in range(FAR)) > number:
            return False
    return all(holds_here(own, habit, row, by_place, place) for place in by_place)


def most_behind(stairs):
    """For each day the greatest number of all later ones."""
    numbers = [stairs[day] for day in range(FAR + 1)]
    return [max(numbers[day + 1:]) for day in range(FAR)]


def holds_here(own, habit, row, by_place, place):
    """Whether one row is as it must be beside those with one thing less."""
    (out, kind), (days, stairs) = place, by_place[place]
    taken = {day: own.takes(habit, out, day, kind) for day in days}
    for thing in out:
        here = [day for day in days if taken[day] == thing]
        rest = tuple(other for other in out if other != thing)
        needed = [(rest, kind, here)] + [(rest, other, range(here[0] + 1, FAR)) for other in own.after[kind] if here]
        if here and rest:
            for *key, those in needed:
                if tuple(key) not in by_place or not set(those) <= set(by_place[tuple(key)][0]):
                    return False
            if any(by_place[key[0], key[1]][1].top is None for *key, _ in needed[1:]):
                return False
        greatest = {other: most_behind(by_place[rest, other][1]) for other in own.after[kind] if here and rest}
        for day in here:
            least = 0
            if rest:
                least = max([by_place[rest, kind][1][day], *[greatest[other][day] for other in own.after[kind]]])
            if stairs[day] < own.lead(habit, row, out, day, kind) + least:
                return False
    return True


def on_day(day, number):
    """Stairs with a number on this day, 0 on all others."""
    return Stairs(((0, 0, 0), (day, number, 0), (day + 1, 0, 0)) if day else ((0, number, 0), (1, 0, 0)))


def changed(chance, rows):
    """The rows with some change, and whether their form is still as it must be."""
    at = chance.randrange(len(rows))
    out, kind, days, stairs = rows[at]
    day = chance.choice([0, 1, 2, 3, 5, 8, 13, 21])
    way = chance.randrange(7)
    if way == 0:
        stairs = stairs + on_day(day, chance.choice((-1, 1)))
    elif way == 1:
        stairs = stairs + Stairs(((0, chance.choice((-1, 1, 2)), 0),))
    elif way == 2:
        days = tuple((first + (first == days[0][0]), last) for first, last in days)
    elif way == 3:
        days = ((day, None),)
    elif way == 4:
        days = (*days[:-1], (days[-1][0], max(day, days[-1][0])))
    elif way == 5:
        return rows[:at] + rows[at + 1:]
    elif way == 6:
        stairs = stairs | Stairs(((0, chance.choice((-20, 0, 3, 20)), chance.choice((0, 0, 1, -1))),))
    return rows[:at] + ((out, kind, days, stairs),) + rows[at + 1:]


class HeightsTest(unittest.TestCase):
    def told(self, own, case, habit, row):
        """What is told, after looking at the rows day by day; None where it is Endless."""
        told = told_or_none(case, habit, row)
        if told is not None:
            self.assertEqual((told.__class__, len(told), told[0].__class__, told[1].__class__), (tuple, 2, int, tuple))
            places = [line[:2] for line in told[1]]
            self.assertEqual(places, sorted(set(places)))
            for line in told[1]:
                self.assertEqual((line.__class__, len(line), line[3].__class__), (tuple, 4, Stairs))
                self.assertTrue(are_stretches(line[2]), line)
            self.assertTrue(holds(own, habit, row, *told))
            self.assertIs(shows_heights(case, habit, row, told), True)
        return told

    def test_against_all_visits(self):
        found = {}
        for text in made_cases(64, 51) + edge_cases() + [TEXT, STEPS]:
            case, own = Case(text), DayByDay(text)
            for habit, row in itertools.product(habits_of(case)[:5:2], rows_to_try(case)[:2]):
                with self.subTest(text=text, habit=habit, row=row):
                    told = self.told(own, case, habit, row)
                    found[told is None, len(case)] = found.get((told is None, len(case)), 0) + 1
                    if told is not None:
                        self.assertEqual(own.most_led(habit, row, DAYS), told[0])
                    else:
                        self.assertGreaterEqual(own.most_led(habit, row, 80) - own.most_led(habit, row, 40), 40)
        self.assertGreater(min(found[endless, many] for endless in (False, True) for many in (2, 3, 4)), 5, found)

    def test_against_all_calendars(self):
        for text in made_cases(64, 52) + edge_cases():
            case, own = Case(text), DayByDay(text)
            if len(case) * len(case.kinds) < 7:
                calendars = own.calendars(8)[:3000]
                for habit, row in itertools.product(habits_of(case)[:3], rows_to_try(case)[:2]):
                    told = told_or_none(case, habit, row)
                    if told is not None:
                        sums = [own.spent(habit, calendar)[0] - own.cost(row, calendar) for calendar in calendars]
                        self.assertLessEqual(max(sums), told[0])

    def test_loss_is_the_greatest_one_of_all_rows(self):
        words = []
        for text in made_cases(32, 53) + edge_cases() + [TEXT, STEPS]:
            case = Case(text)
            for habit in habits_of(case)[:4]:
                rows = list(itertools.permutations(case.things))
                told = [told_or_none(case, habit, row) for row in rows]
                lost = loss(case, habit)
                words.append(lost[0])
                if lost[0] == "endless":
                    self.assertIn(None, told)
                else:
                    self.assertEqual(max(number for number, _ in told), lost[1])
        self.assertGreater(min(words.count("most"), words.count("endless")), 15)

    def test_own_row_leads_by_nothing(self):
        for text in made_cases(48, 54) + edge_cases():
            case = Case(text)
            row = case.things[::-1]
            number, rows = heights(case, " ".join(["row", *row]), row)
            self.assertEqual(number, 0)
            self.assertTrue(all(stairs == Stairs(((0, 0, 0),)) for *_, stairs in rows))
            self.assertEqual(len(rows), len(case) * len(case.kinds))

    def test_one_thing_alone(self):
        case, none = Case("kinds q p\nafter p p\nthing w due 0 2 from 1"), Stairs(((0, 0, 0),))
        rows = ((("w",), "p", ((0, None),), none), (("w",), "q", ((0, None),), none))
        for habit in ("dearest", "cheapest", "steepest 3", "row w"):
            self.assertEqual(heights(case, habit, ("w",)), (0, rows))
            self.assertIs(shows_heights(case, habit, ("w",), (0, rows)), True)
            self.assertIs(shows_heights(case, habit, ("w",), (0, rows[::-1])), False)
            self.assertIs(shows_heights(case, habit, ("w",), (0, rows[:1])), False)

    def test_ascending_by_names_not_by_their_sequence(self):
        case = Case("kinds q p\nafter q p\nthing b due 0 2 from 1, top 3\nthing a due 0 1 from 1, top 9")
        number, rows = heights(case, "dearest", ("b", "a"))
        self.assertEqual([row[:2] for row in rows], [
            (("a",), "p"), (("a",), "q"), (("b",), "p"), (("b",), "q"), (("b", "a"), "p"), (("b", "a"), "q"),
        ])
        self.assertIs(shows_heights(case, "dearest", ("b", "a"), (number, rows)), True)
        by_sequence = sorted(rows, key=lambda row: (len(row[0]), case.things.index(row[0][0]), case.kinds.index(row[1])))
        self.assertIs(shows_heights(case, "dearest", ("b", "a"), (number, tuple(by_sequence))), False)

    def test_days_of_which_a_row_speaks(self):
        # Of both, x is dearer on days 1 and 2 alone; all later days can come behind these if any can.
        case = Case("kinds p\nthing w due 0 2 from 1, top 20\nthing x due 0 6 from 1, top 6")
        told = heights(case, "dearest", ("w", "x"))
        self.assertEqual([row[:3] for row in told[1]], [
            (("w",), "p", ((1, 2),)), (("w", "x"), "p", ((0, None),)), (("x",), "p", ((0, 0), (3, None))),
        ])
        told = heights(Case(case.text.replace("\n", "\nafter p p\n", 1)), "dearest", ("w", "x"))
        self.assertEqual([row[:3] for row in told[1]], [
            (("w",), "p", ((1, None),)), (("w", "x"), "p", ((0, None),)), (("x",), "p", ((0, None),)),
        ])

    def test_kinds_behind_which_nothing_comes(self):
        text = "kinds p q\nafter p q\nmercy q none\nthing w due 0 2 from 1, top 8\nthing x due 0 3 from 1, top 9"
        case = Case(text)
        self.assertEqual(heights(case, "dearest", ("w", "x"))[0], 3)
        self.assertEqual(heights(case, "cheapest", ("w", "x"))[0], 0)
        # On one day alone what grows without end is made good for by the other thing.
        case = Case("kinds p\nthing w due 0 2 from 1\nthing x due 0 3 from 1")
        for habit, row in itertools.product(("dearest", "cheapest"), (("w", "x"), ("x", "w"))):
            self.assertEqual(heights(case, habit, row)[0], 0)

    def test_endless(self):
        case = Case(STEPS)
        for row in itertools.permutations("abc"):
            if row != ("a", "b", "c"):
                refused(self, Endless, row, heights, case, "row a b c", row)
                refused(self, Endless, row, shows_heights, case, "row a b c", row, (0, ()))
        self.assertEqual(heights(case, "row a b c", ("a", "b", "c"))[0], 0)

    def test_days_far_out(self):
        far, much = 10 ** 20, 10 ** 39
        case = Case(f"kinds p\nafter p p\nthing w due {far} {much} from {far}, lost {3 * far} 7\nthing x due {2 * far} 5 from 1")
        for habit in ("dearest", "cheapest", f"steepest {far}", "row w x", "row x w"):
            for row in (("w", "x"), ("x", "w")):
                told = told_or_none(case, habit, row)
                if told is not None:
                    self.assertIs(shows_heights(case, habit, row, told), True)
                    self.assertIs(shows_heights(case, habit, row, (told[0] + 1, told[1])), False)
        self.assertEqual(heights(case, "row x w", ("w", "x"))[0], loss(case, "row x w")[1])

    def test_by_name_and_equal_calls(self):
        case, row = Case(TEXT), ("b", "a")
        told = heights(row=row, habit="row a b", case=case)
        self.assertEqual(told[0], 12)
        self.assertTrue(same(told, heights(Case(TEXT), "row a b", row)))
        self.assertIs(shows_heights(value=told, row=row, habit="row a b", case=case), True)
        self.assertEqual(case, Case(TEXT))


class ShowsHeightsTest(unittest.TestCase):
    def test_just_the_right_rows(self):
        chance, rights = random.Random(55), []
        for text in made_cases(96, 55)[4:] + edge_cases()[1:] + [TEXT]:
            case, own = Case(text), DayByDay(text)
            habit, row = chance.choice(habits_of(case)), chance.choice(rows_to_try(case))
            told = told_or_none(case, habit, row)
            if told is not None:
                for _ in range(12):
                    rows = changed(chance, told[1])
                    if chance.random() < 0.4:
                        rows = changed(chance, rows) if rows else rows
                    right = all(are_stretches(line[2]) for line in rows) and holds(own, habit, row, told[0], rows)
                    rights.append(right)
                    self.assertIs(shows_heights(case, habit, row, (told[0], rows)), right, (text, habit, row, rows))
        self.assertGreater(min(rights.count(True), rights.count(False)), 60)

    def test_rows_of_which_nothing_else_speaks(self):
        # Things that cannot be out on any visit may have a row, if it is right by itself.
        case, row = Case(STEPS), ("a", "b", "c")
        number, rows = heights(case, "row c b a", row)
        self.assertNotIn(("a", "c"), [line[0] for line in rows])
        more = lambda *line: (number, tuple(sorted([*rows, line], key=lambda line: line[:2])))
        far, free = Stairs(((0, 0, 3),)), ((7, 9), (11, None))
        self.assertIs(shows_heights(case, "row c b a", row, more(("c",), "day", free, far)), True)
        self.assertIs(shows_heights(case, "row c b a", row, more(("c",), "day", free, far - Stairs(((0, 7, 0),)))), True)
        self.assertIs(shows_heights(case, "row c b a", row, more(("b",), "day", ((0, 9),), Stairs(((0, 0, 0),)))), True)
        self.assertIs(shows_heights(case, "row c b a", row, more(("a", "c"), "day", ((0, 9),), Stairs(((0, 99, 0),)))), True)
        self.assertIs(shows_heights(case, "row c b a", row, more(("a", "c"), "day", (), Stairs(((0, 99, 0),)))), False)
        # Here a row of c alone lacks.
        self.assertIs(shows_heights(case, "row c b a", row, more(("b", "c"), "day", ((0, 9),), Stairs(((0, 99, 0),)))), False)

    def test_each_day_that_can_come_must_be_spoken_of(self):
        case, row = Case("kinds p q\nafter p q\nmercy q none\nthing w due 0 2 from 1, top 8\nthing x due 0 3 from 1, top 9"), ("w", "x")
        number, rows = heights(case, "row w x", row)
        places = [line[:2] for line in rows]
        self.assertEqual([line[2] for line in rows], [((0, None),)] * 4)
        at = places.index((("x",), "q"))
        for days, right in ((((0, None),), True), (((1, None),), False), (((0, 3), (5, None)), False), (((0, 9),), False)):
            told = (*rows[:at], (*places[at], days, rows[at][3]), *rows[at + 1:])
            self.assertIs(shows_heights(case, "row w x", row, (number, told)), right)

    def test_days_behind_the_first_one(self):
        # The row of w speaks of days from 1 on, as x is brought on days 1 and 2 alone.
        case = Case("kinds p q\nafter p q\nmercy q none\nthing w due 0 2 from 1, top 20\nthing x due 0 6 from 1, top 6")
        number, rows = heights(case, "dearest", ("w", "x"))
        at = [line[:2] for line in rows].index((("w",), "q"))
        self.assertEqual(rows[at][2], ((2, None),))
        for days, right in ((((1, None),), True), (((2, None),), True), (((3, None),), False), (((2, 2), (4, None)), False)):
            told = (*rows[:at], (*rows[at][:2], days, rows[at][3]), *rows[at + 1:])
            self.assertIs(shows_heights(case, "dearest", ("w", "x"), (number, told)), right)

    def test_no_two_alike(self):
        case, row = Case(TEXT), ("b", "a")
        number, rows = heights(case, "row a b", row)
        for at, (out, kind, days, stairs) in enumerate(rows):
            for one, other in ((((0, 5),), ((6, None),)), (((0, 5),), ((0, None),)), (days, days)):
                told = (*rows[:at], (out, kind, one, stairs), (out, kind, other, stairs), *rows[at + 1:])
                self.assertIs(shows_heights(case, "row a b", row, (number, told)), False)

    def test_true_is_no_number(self):
        case = Case("kinds p\nafter p p\nthing w due 0 1 from 1, top 1\nthing x due 0")
        for habit, told, wrong in (("row x w", 1, True), ("row w x", 0, False)):
            number, rows = heights(case, habit, ("w", "x"))
            self.assertEqual(number, told)
            self.assertIs(shows_heights(case, habit, ("w", "x"), (number, rows)), True)
            self.assertIs(shows_heights(case, habit, ("w", "x"), (wrong, rows)), False)

    def test_otherwise(self):
        case, row = Case(TEXT), ("b", "a")
        number, rows = heights(case, "row a b", row)
        right = lambda value: shows_heights(case, "row a b", row, value)
        self.assertIs(right((number, rows)), True)
        for other in (number - 1, number + 1, -number, str(number), True, None, (number,)):
            self.assertIs(right((other, rows)), False)
        for value in ((number, list(rows)), (number, rows, 0), (number,), [number, rows], (rows, number), rows, (number, rows[::-1])):
            self.assertIs(right(value), False)
        for at, (out, kind, days, stairs) in enumerate(rows):
            for line in (
                (out[::-1] if len(out) > 1 else (), kind, days, stairs), (list(out), kind, days, stairs), ((*out, out[0]), kind, days, stairs),
                (out, "other", days, stairs), (out, 0, days, stairs), (out, kind, (), stairs), (out, kind, list(days), stairs),
                (out, kind, ((0, 3), (4, None)), stairs), (out, kind, ((0, 3), (2, None)), stairs), (out, kind, ((5, None), (0, 3)), stairs),
                (out, kind, ([0, None],), stairs), (out, kind, ((False, None),), stairs), (out, kind, ((0, -1),), stairs),
                (out, kind, ((0, None), (7, 9)), stairs), (out, kind, ((0, True), (3, None)), stairs), (out, kind, (0, None), stairs),
                (out, kind, ((0, None, None),), stairs), (out, kind, ((-1, None),), stairs), (out, kind, ((0, "9"), (20, None)), stairs),
                (out, kind, days, stairs.pieces), (out, kind, days, None), (out, kind, days), (out, kind, days, stairs, 0),
                [out, kind, days, stairs], (kind, out, days, stairs), (out, kind, days, stairs - Stairs(((0, 1, 0),))), (),
            ):
                self.assertIs(right((number, (*rows[:at], line, *rows[at + 1:]))), False, line)
            self.assertIs(right((number, (*rows[:at + 1], rows[at], *rows[at + 1:]))), False)
            self.assertIs(right((number, (*rows[:at], *rows[at + 1:]))), False)

    def test_any_value(self):
        case, row = Case(TEXT), ("b", "a")
        number, rows = heights(case, "row a b", row)
        for value in any_values():
            self.assertIs(shows_heights(case, "row a b", row, value), False)
            for other in ((value, rows), (number, value), (number, (value, *rows[1:])), (number, (*rows, value))):
                self.assertIs(shows_heights(case, "row a b", row, other), False)
            for at in range(4):
                line = (*rows[1][:at], value, *rows[1][at + 1:])
                right = same(line, rows[1])
                self.assertIs(shows_heights(case, "row a b", row, (number, (rows[0], line, *rows[2:]))), right, value)


class WrongTest(unittest.TestCase):
    def test_habit_ahead_of_row_ahead_of_value(self):
        case = Case(TEXT)
        for value in any_values():
            if not same(value, ("a", "b")) and not same(value, ("b", "a")):
                refused(self, BadRow, value, heights, case, "dearest", value)
                refused(self, BadRow, value, shows_heights, case, "dearest", value, 0)
            if value not in ("dearest", "row a b", "steepest 3"):
                for row in (("a", "b"), value):
                    refused(self, BadHabit, value, heights, case, value, row)
                    refused(self, BadHabit, value, shows_heights, case, value, row, value)

    def test_rows(self):
        case = Case(STEPS)
        for row in (("a", "b"), ("a", "b", "c", "a"), ("a", "b", "b"), ("a", "b", "d"), ["a", "b", "c"], "abc", ("a", "b", None), (("a",), "b", "c")):
            refused(self, BadRow, row, heights, case, "row a b c", row)
        refused(self, BadHabit, "row a b", heights, case, "row a b", ("a", "b"))


if __name__ == "__main__":
    unittest.main()
