"""Point 15: what counters refuse, and journals that are read back."""

import random
import unittest

from finestairs.cases import Case
from finestairs.counters import Counter, read_counter
from finestairs.errors import (
    BadCase, BadHabit, BadJournal, BadVisit, Empty, FineError, NoLine, NotCome, NothingToRedo, NothingToUndo, NotOut,
)
from tests.helper import DayByDay, any_values, edge_cases, made_cases, refused, same
from tests.test_trials import begun, told

TEXT = (
    "kinds plain mercy\nafter plain plain mercy\nafter mercy plain mercy\nmercy mercy top 4\n"
    "thing a due 0 2 from 1, top 20\nthing b due 3 5 from 1, lost 5 12"
)
JOURNAL = ("come 3 plain", "bring a", "change 4 mercy mercy none", "come 9 mercy", "bring b")


class WrongTest(unittest.TestCase):
    def refused(self, error, value, counter, name, *arguments):
        """That a deed is refused by this error, and changes nothing."""
        ahead = told(counter)
        with self.subTest(name=name, arguments=arguments):
            with self.assertRaises(error) as caught:
                getattr(counter, name)(*arguments)
            self.assertIs(caught.exception.__class__, error)
            self.assertTrue(same(caught.exception.value, value))
            self.assertTrue(same(told(counter), ahead))
        return caught.exception.value

    def test_come(self):
        counter = begun()
        for day, kind in (
            (2, "plain"), (3, "mercy"), (-1, "plain"), (True, "plain"), ("4", "plain"), (4, "other"), (4, None), (None, None), (4, ("plain",)), (4, 0), ("plain", 4),
        ):
            self.refused(BadVisit, (day, kind), counter, "come", day, kind)
            if (day, kind) not in ((2, "plain"), (3, "mercy")):
                self.refused(BadVisit, (day, kind), Counter(Case(TEXT)), "come", day, kind)
        counter = Counter(Case("kinds p q\nafter p q\nthing w due 0"))
        counter.come(4, "q")
        for day, kind in ((5, "p"), (5, "q"), (4, "p"), (3, "q")):
            self.refused(BadVisit, (day, kind), counter, "come", day, kind)

    def test_any_visit(self):
        for value in any_values():
            for counter in (begun(), Counter(Case(TEXT))):
                if not (value.__class__ is int and value > 3) and not (counter.done == 0 and value.__class__ is int and value >= 0):
                    given = self.refused(BadVisit, (value, "plain"), counter, "come", value, "plain")
                    self.assertIs(given[0], value)
                if value != "plain":
                    given = self.refused(BadVisit, (3, value), counter, "come", 3, value)
                    self.assertIs(given[1], value)

    def test_bring(self):
        empty = Counter(Case(TEXT))
        self.refused(NotCome, None, empty, "bring", "a")
        for value in (*any_values(), "c", "A", "plain"):
            if value not in ("a", "b"):
                self.assertIs(self.refused(NotOut, value, empty, "bring", value), value)
                self.assertIs(self.refused(NotOut, value, begun(), "bring", value), value)
        counter = begun()
        counter.bring("a")
        self.refused(NotOut, "a", counter, "bring", "a")

    def test_bring_by(self):
        counter = begun()
        for value in (*any_values(), "row a", "row b", "row a b c", "steepest", "steepest 03", "Dearest", " dearest"):
            if value not in ("dearest", "row a b", "steepest 3"):
                self.assertIs(self.refused(BadHabit, value, counter, "bring_by", value), value)
                self.assertIs(self.refused(BadHabit, value, Counter(Case(TEXT)), "bring_by", value), value)
        counter.bring("a")
        # A habit is one of all things of the case, whatever is out.
        self.refused(BadHabit, "row b", counter, "bring_by", "row b")
        self.assertEqual(counter.bring_by("row a b"), "b")
        self.refused(Empty, None, counter, "bring_by", "dearest")
        self.refused(BadHabit, "row b", counter, "bring_by", "row b")
        self.refused(NotCome, None, Counter(Case(TEXT)), "bring_by", "dearest")

    def test_empty_ahead_of_nobody_came(self):
        counter = begun()
        counter.bring_by("dearest")
        counter.bring_by("dearest")
        self.assertEqual((len(counter), counter.visit), (0, (3, "plain")))
        self.refused(Empty, None, counter, "bring_by", "cheapest")

    def test_change(self):
        for counter in (begun(), Counter(Case(TEXT))):
            for number in (0, 7, -1, True, None, "4", (4,), 10 ** 39):
                self.assertIs(self.refused(NoLine, number, counter, "change", number, None), number)
            for number, line, wrong in (
                (4, "mercy mercy", 4), (4, "mercy plain none\n", 4), (4, None, 4), (4, 7, 4), (1, "kinds plain", 2), (1, "kinds mercy plain", 1),
                (1, "kinds plain mercy more", 1), (5, "thing b due 0", 6), (5, "thing c due 0", 5), (6, "thing c due 0", 6), (2, "after mercy plain", 3),
                (6, "", 6), (2, "after plain mercy", 2), (5, "mercy plain none", 5),
            ):
                self.refused(BadCase, wrong, counter, "change", number, line)
            for value in any_values():
                if not (value.__class__ is int and 0 < value < 7):
                    self.assertIs(self.refused(NoLine, value, counter, "change", value, "x"), value)
                self.refused(BadCase, 4, counter, "change", 4, value)

    def test_lines_of_other_kinds_or_things(self):
        counter = Counter(Case("kinds p q\nafter p p\nthing w due 0 2 from 1\nthing x due 0"))
        self.refused(BadCase, 1, counter, "change", 1, "kinds q p")
        self.refused(BadCase, 1, counter, "change", 1, "kinds p q r")
        self.refused(BadCase, 1, counter, "change", 1, "kinds p")
        self.refused(BadCase, 3, counter, "change", 3, "thing y due 0")
        self.refused(BadCase, 2, counter, "change", 2, "thing y due 0")
        self.refused(BadCase, 3, counter, "change", 3, "after q q")
        self.refused(BadCase, 4, counter, "change", 4, "thing w due 0")
        counter.change(3, "thing w late 7 1 from 1")
        self.assertEqual(counter.case.bill("w", "p")[0], 7)

    def test_nothing_to_undo_or_redo(self):
        counter = Counter(Case(TEXT))
        self.refused(NothingToUndo, None, counter, "undo")
        self.refused(NothingToRedo, None, counter, "redo")
        counter.come(3, "plain")
        self.refused(NothingToRedo, None, counter, "redo")
        counter.undo()
        self.refused(NothingToUndo, None, counter, "undo")
        with counter.trial():
            self.refused(NothingToUndo, None, counter, "undo")


class JournalTest(unittest.TestCase):
    def test_read_back(self):
        case = Case(TEXT)
        counter = read_counter(case, JOURNAL)
        self.assertTrue(same(counter.journal, JOURNAL))
        self.assertEqual((counter.paid, counter.out, counter.visit, counter.done, counter.first), (6, (), (9, "mercy"), 5, case))
        self.assertTrue(read_counter(lines=JOURNAL, case=case) == counter)
        refused(self, NothingToRedo, None, counter.redo)
        for many in range(5, 0, -1):
            self.assertEqual(counter.journal, JOURNAL[:many])
            self.assertTrue(counter == read_counter(case, JOURNAL[:many]))
            counter.undo()
        self.assertTrue(counter == Counter(case) and counter == read_counter(case, ()))

    def test_first_wrong_line(self):
        case = Case(TEXT)
        for at, line in enumerate(JOURNAL):
            for wrong in (
                "", " ", "come", "come 3", "come plain 3", "come 3 plain plain", "come 03 plain", "come +3 plain", "come -0 plain", "come 3.0 plain", "come x plain",
                "come -3 plain", "come 3 other", "come  3 plain", " come 3 plain", "come 3 plain ", "come 3 plain\n", "come 1 plain" if at > 0 else "Come 3 plain",
                "bring", "bring c", "bring a b", "bring  a", "Bring a", "bring a ", "bring a" if at != 1 else "bring plain", "change", "change 4", "change 4 ",
                "change 0 mercy mercy none", "change 7 x", "change 04 mercy mercy none", "change -1 x", "change x mercy mercy none", "change 4 mercy mercy", "change 1 kinds plain",
                "change 4  mercy mercy none", "change 4 mercy  mercy none", "change 1 kinds mercy plain", "change 5 thing c due 0", "undo", "redo", "by dearest", "paid", "come_3_plain",
            ):
                lines = (*JOURNAL[:at], wrong, *JOURNAL[at + 1:])
                refused(self, BadJournal, at + 1, read_counter, case, lines)
                refused(self, BadJournal, at + 1, read_counter, case, (*JOURNAL[:at], wrong, "nothing"))

    def test_any_value(self):
        case = Case(TEXT)
        for value in any_values():
            if value.__class__ is not tuple:
                refused(self, BadJournal, 0, read_counter, case, value)
            elif value:
                refused(self, BadJournal, 1, read_counter, case, value)
            refused(self, BadJournal, 1, read_counter, case, (value, *JOURNAL))
            refused(self, BadJournal, 3, read_counter, case, (*JOURNAL[:2], value))
        for lines in (list(JOURNAL), "\n".join(JOURNAL), JOURNAL[0], {0: JOURNAL[0]}):
            refused(self, BadJournal, 0, read_counter, case, lines)

    def test_refused_in_between(self):
        case = Case(TEXT)
        refused(self, BadJournal, 1, read_counter, case, ("bring a",))
        refused(self, BadJournal, 3, read_counter, case, ("come 3 plain", "bring a", "bring a"))
        refused(self, BadJournal, 2, read_counter, case, ("come 3 plain", "come 3 mercy"))
        # Behind another line what can come behind a kind is otherwise.
        lines = ("come 3 plain", "change 2 after plain mercy", "come 4 plain")
        refused(self, BadJournal, 2, read_counter, case, lines)
        lines = ("come 3 plain", "change 3 after mercy mercy", "change 2 after plain mercy", "come 4 plain")
        refused(self, BadJournal, 4, read_counter, case, lines)
        self.assertEqual(read_counter(case, lines[:3]).case.after("plain"), ("mercy",))

    def test_journals_of_what_was_done(self):
        chance = random.Random(161)
        for text in made_cases(48, 161) + edge_cases():
            own, counter, day = DayByDay(text), Counter(Case(text)), 0
            for _ in range(12):
                day += chance.choice((0, 1, 2))
                for deed in (lambda: counter.come(day, chance.choice(own.kinds)), lambda: counter.bring_by(chance.choice(("dearest", "cheapest"))), counter.undo):
                    if chance.random() < 0.6:
                        try:
                            deed()
                        except FineError:
                            pass
                other = read_counter(counter.first, counter.journal)
                self.assertTrue(other == counter and counter == other)
                self.assertTrue(same((other.paid, other.out, other.visit, other.case), (counter.paid, counter.out, counter.visit, counter.case)))


if __name__ == "__main__":
    unittest.main()
