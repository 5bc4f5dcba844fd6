"""Point 3, (b) to (e), and what point 2 tells of calls, for cases, later, ranks and habits."""

import itertools
import unittest

from finestairs.cases import Case
from finestairs.habits import alike, loss, shows_alike, shows_loss, spent, taken
from finestairs.later import later, shows_later
from finestairs.ranks import best, cost, ranked, shows_ranked
from tests.helper import RENAMED, DayByDay, edge_cases, habits_of, later_due, left_out, made_cases, renamed, same


def texts(many, seed):
    return made_cases(many, seed) + edge_cases()


def words_and_numbers(case):
    """What is told but visits, floors and things."""
    told = {("later", thing): later(case, thing)[:2] for thing in case.things}
    told["ranked"] = ranked(case)[:1]
    for habit in habits_of(case):
        told["loss", habit] = loss(case, habit)[:2]
    return {key: row if row[0] in ("saves", "most") else row[:1] for key, row in told.items()}


def no_more(ahead, behind):
    """Whether what was never so stays so, and no number grew."""
    if ahead[0] in ("never", "row"):
        return behind[0] == ahead[0]
    if ahead[0] == "saves":
        return behind[0] == "never" or (behind[0] == "saves" and behind[1] <= ahead[1])
    return ahead[0] != "most" or (behind[0] == "most" and behind[1] <= ahead[1])


class GuaranteesTest(unittest.TestCase):
    def test_due_later(self):
        for text in texts(32, 31):
            one = Case(later_due(text, 0))
            ahead = {key: row for key, row in words_and_numbers(one).items() if "steepest" not in key[1]}
            for days in (1, 4, 10 ** 20):
                other = Case(later_due(text, days))
                behind = words_and_numbers(other)
                self.assertEqual(ahead, {key: behind[key] for key in ahead}, text)

    def test_fewer_days_that_can_come(self):
        many = 0
        for text in texts(64, 32):
            ahead = words_and_numbers(Case(text))
            for other in left_out(text):
                many += 1
                behind = words_and_numbers(Case(other))
                for key in ahead:
                    self.assertTrue(no_more(ahead[key], behind[key]), (text, other, key))
        self.assertGreater(many, 60)

    def test_things_by_themselves(self):
        for text in texts(32, 33):
            case = Case(text)
            lines = text.split("\n")
            head = lines[:len(lines) - len(case)]
            told = ranked(case)
            for out in DayByDay(text).outs():
                of_out = [line for line in lines if line.split(" ")[0] == "thing" and line.split(" ")[1] in out]
                alone = Case("\n".join([*head, *of_out]))
                for thing, kind in itertools.product(out, case.kinds):
                    self.assertEqual(alone.bill(thing, kind), case.bill(thing, kind))
                    self.assertEqual(later(alone, thing)[0], later(case, thing)[0])
                    if later(case, thing)[0] == "saves":
                        self.assertEqual(later(alone, thing)[1], later(case, thing)[1])
                    self.assertIs(shows_later(alone, thing, later(case, thing)), True)
                if told[0] == "row":
                    self.assertEqual(ranked(alone)[0], "row")
                    row = [thing for thing in told[1] if thing in out]
                    self.assertEqual(loss(alone, " ".join(["row", *row]))[:2], ("most", 0))

    def test_names(self):
        for text in texts(64, 34):
            case, other = Case(text), Case(renamed(text))
            self.assertEqual(other.things, tuple(RENAMED[thing] for thing in case.things))
            ahead, behind = words_and_numbers(case), words_and_numbers(other)
            self.assertEqual(ahead["ranked"], behind["ranked"])
            for thing in case.things:
                self.assertEqual(ahead["later", thing], behind["later", RENAMED[thing]])
            for habit in ("dearest", "cheapest", "steepest 4"):
                self.assertEqual(ahead["loss", habit], behind["loss", habit])
                calendar = tuple((3, case.kinds[0]) for _ in case.things)
                moved = tuple((3, RENAMED[case.kinds[0]]) for _ in case.things)
                number, row = spent(case, habit, calendar)
                self.assertEqual(spent(other, habit, moved), (number, tuple(RENAMED[thing] for thing in row)))
                self.assertEqual(best(case, calendar)[0], best(other, moved)[0])

    def test_a_row_as_a_habit_costs_what_it_costs(self):
        for text in texts(16, 35):
            case = Case(text)
            calendar = tuple((day, case.kinds[0]) for day in [2] * len(case))
            for row in itertools.permutations(case.things):
                number, brought = spent(case, " ".join(["row", *row]), calendar)
                self.assertEqual((number, brought), (cost(case, row, calendar), row))


class CallsTest(unittest.TestCase):
    def test_equal_calls_and_nothing_changed(self):
        for text in texts(16, 36):
            case, again = Case(text), Case(text)
            bills = {(thing, kind): case.bill(thing, kind).pieces for thing in case.things for kind in case.kinds}
            for thing in case.things:
                told = later(case, thing)
                self.assertTrue(same(told, later(again, thing)))
                self.assertTrue(same(told, later(case, thing)))
            told = ranked(case)
            self.assertTrue(same(told, ranked(again)))
            self.assertIs(shows_ranked(case, told), True)
            for habit, other in itertools.product(habits_of(case)[:4], repeat=2):
                self.assertTrue(same(loss(case, habit), loss(again, habit)))
                self.assertTrue(same(alike(case, habit, other), alike(again, habit, other)))
                self.assertIs(shows_loss(again, habit, loss(case, habit)), True)
                self.assertIs(shows_alike(again, habit, other, alike(case, habit, other)), True)
                self.assertEqual(taken(case, habit, case.things, (3, case.kinds[0])), taken(again, habit, case.things, (3, case.kinds[0])))
            self.assertEqual(case, again)
            self.assertEqual(bills, {(thing, kind): case.bill(thing, kind).pieces for thing, kind in bills})


if __name__ == "__main__":
    unittest.main()
