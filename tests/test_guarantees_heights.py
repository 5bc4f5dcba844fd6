"""Point 3, (b) to (e), for heights, compared and mended, and all prices as many times as much."""

import itertools
import random
import unittest

from finestairs.cases import Case
from finestairs.comparing import compared, first_apart, shows_compared
from finestairs.errors import Endless
from finestairs.habits import alike, loss
from finestairs.heights import heights, shows_heights
from finestairs.later import later
from finestairs.mending import mended, shows_mended
from finestairs.ranks import ranked
from tests.helper import (
    RENAMED, DayByDay, changed_lines, edge_cases, habits_of, later_due, left_out, made_cases, priced, renamed, same,
)


def texts(many, seed):
    return made_cases(many, seed) + edge_cases()


def number_or_none(deed, *arguments):
    """The first part of what is told, which is a number; None where it is Endless."""
    try:
        return deed(*arguments)[0]
    except Endless:
        return None


def numbers(case, habits, row):
    """The numbers that heights and mended tell of a case."""
    told = {("mended", thing): number_or_none(mended, case, thing) for thing in case.things}
    for habit in habits:
        told["heights", habit] = number_or_none(heights, case, habit, row)
    return told


def lines_of(text, out):
    """The text with these things alone."""
    rows = [line.split(" ") for line in text.split("\n")]
    return "\n".join([" ".join(words) for words in rows if words[0] != "thing" or words[1] in out])


class GuaranteesTest(unittest.TestCase):
    def test_due_later(self):
        chance = random.Random(81)
        for text in texts(32, 81):
            one, other = Case(later_due(text, 0)), Case(later_due(changed_lines(chance, text), 0))
            habits = [habit for habit in habits_of(one) if "steepest" not in habit]
            ahead, apart = numbers(one, habits, one.things), first_apart(one, other)
            for days in (1, 5, 10 ** 20):
                behind, its = Case(later_due(text, days)), Case(later_due(other.text, days))
                self.assertEqual(numbers(behind, habits, one.things), ahead)
                self.assertEqual(compared(behind, its)[0], compared(one, other)[0])
                self.assertEqual(first_apart(behind, its), apart and (apart[0] + days, *apart[1:]))

    def test_due_later_also_what_is_due_at_once(self):
        # A fine that is asked from late day 1 on tells of day 0 by days behind it: day 0 is never late.
        one, other = Case("kinds p\nthing w due 0 2 from 1"), Case("kinds p\nthing w due 0 3 from 1")
        self.assertEqual(first_apart(one, other), (1, "w", "p"))
        self.assertEqual(first_apart(Case(later_due(one.text, 9)), Case(later_due(other.text, 9))), (10, "w", "p"))

    def test_fewer_days_that_can_come(self):
        many = 0
        for text in texts(64, 82):
            case = Case(text)
            ahead = numbers(case, habits_of(case)[::2], case.things)
            for other in left_out(text):
                many += 1
                behind = numbers(Case(other), habits_of(case)[::2], case.things)
                for key, number in ahead.items():
                    self.assertTrue(number is None or (behind[key] is not None and behind[key] <= number), (text, other, key))
                self.assertEqual(compared(case, Case(other)), ("alike",))
        self.assertGreater(many, 60)

    def test_things_by_themselves(self):
        for text in texts(32, 83):
            case = Case(text)
            for out in DayByDay(text).outs():
                alone = Case(lines_of(text, out))
                self.assertEqual(alone.things, out)
                for thing in out:
                    self.assertEqual(number_or_none(mended, alone, thing), number_or_none(mended, case, thing))
                    if number_or_none(mended, case, thing) is not None:
                        self.assertIs(shows_mended(alone, thing, mended(case, thing)), True)

    def test_names(self):
        for text in texts(48, 84):
            case, other = Case(text), Case(renamed(text))
            names = lambda row: tuple(RENAMED[thing] for thing in row)
            for habit, row in itertools.product(("dearest", "cheapest", "steepest 4"), (case.things, case.things[::-1])):
                number = number_or_none(heights, case, habit, row)
                self.assertEqual(number_or_none(heights, other, habit, names(row)), number)
                if number is not None:
                    rows = [(names(out), RENAMED[kind], days, stairs) for out, kind, days, stairs in heights(case, habit, row)[1]]
                    rows = tuple(sorted(rows, key=lambda line: line[:2]))
                    self.assertIs(shows_heights(other, habit, names(row), (number, rows)), True)
                    self.assertTrue(same(heights(other, habit, names(row)), (number, rows)))
            for thing in case.things:
                self.assertEqual(number_or_none(mended, case, thing), number_or_none(mended, other, RENAMED[thing]))

    def test_names_of_cases_beside_one_another(self):
        chance = random.Random(85)
        for text in texts(64, 85):
            its = changed_lines(chance, text)
            told, apart = compared(Case(text), Case(its)), first_apart(Case(text), Case(its))
            case, other = Case(renamed(text)), Case(renamed(its))
            self.assertEqual(compared(case, other)[0], told[0])
            self.assertEqual(first_apart(case, other), apart and (apart[0], RENAMED[apart[1]], RENAMED[apart[2]]))
            if told[0] == "open":
                there = tuple((RENAMED[thing], (day, RENAMED[kind])) for thing, (day, kind) in told[1:])
                self.assertIs(shows_compared(case, other, ("open", *there)), True)

    def test_all_prices_so_many_times_as_much(self):
        chance = random.Random(86)
        for text in texts(24, 86):
            case, its = Case(text), Case(changed_lines(chance, text))
            for times in (3, 10 ** 19):
                other = Case(priced(text, times))
                for thing, kind in itertools.product(case.things, case.kinds):
                    self.assertEqual(other.bill(thing, kind), times * case.bill(thing, kind))
                for thing in case.things:
                    ahead, behind = later(case, thing), later(other, thing)
                    self.assertEqual(ahead[0], behind[0])
                    if ahead[0] == "saves":
                        self.assertEqual(behind[1], times * ahead[1])
                        self.assertEqual(mended(other, thing)[0], (times * ahead[1] + 1) // 2)
                self.assertEqual(ranked(case)[0], ranked(other)[0])
                for habit in habits_of(case)[:4]:
                    self.assertEqual(alike(case, habit, "dearest"), alike(other, habit, "dearest"))
                    ahead, behind = loss(case, habit), loss(other, habit)
                    self.assertEqual(ahead[0], behind[0])
                    if ahead[0] == "most":
                        self.assertEqual(behind[1], times * ahead[1])
                        told = heights(case, habit, case.things)
                        many = times * told[0], tuple((*row[:3], times * row[3]) for row in told[1])
                        self.assertIs(shows_heights(other, habit, case.things, many), True)
                self.assertEqual(compared(other, Case(priced(its.text, times)))[0], compared(case, its)[0])
                self.assertEqual(first_apart(other, Case(priced(its.text, times))), first_apart(case, its))


if __name__ == "__main__":
    unittest.main()
