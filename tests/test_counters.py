"""Point 15: counters beside a plain count of the same deeds."""

import random
import unittest

from finestairs.cases import Case
from finestairs.counters import Counter, read_counter
from finestairs.errors import FineError
from tests.helper import DayByDay, changed_lines, edge_cases, habits_of, made_cases, same

TEXT = (
    "kinds plain mercy\nafter plain plain mercy\nafter mercy plain mercy\nmercy mercy top 4\n"
    "thing a due 0 2 from 1, top 20\nthing b due 3 5 from 1, lost 5 12"
)


class Plain:
    """A plain count: all is counted anew from the lines that stand. What is refused is told as (error, value)."""

    def __init__(self, text):
        self.text, self.lines, self.back = text, [], []

    def counted(self):
        """The text of now, the last visit, what is out, and what was paid."""
        text, visit, paid, brought = self.text, None, 0, []
        for line in self.lines:
            word, *rest = line.split(" ")
            if word == "come":
                visit = (int(rest[0]), rest[1])
            elif word == "bring":
                paid += DayByDay(text).number(rest[0], visit[1], visit[0])
                brought.append(rest[0])
            else:
                rows = text.split("\n")
                rows[int(rest[0]) - 1] = " ".join(rest[1:])
                text = "\n".join(rows)
        return text, visit, tuple(thing for thing in DayByDay(text).things if thing not in brought), paid

    def did(self, line):
        self.lines, self.back = [*self.lines, line], []

    def come(self, day, kind):
        text, visit, _, _ = self.counted()
        own = DayByDay(text)
        right = kind in own.kinds and day >= 0
        if not right or not (visit in (None, (day, kind)) or (visit[0] < day and kind in own.after[visit[1]])):
            return "BadVisit", (day, kind)
        return self.did(f"come {day} {kind}")

    def bring(self, thing):
        _, visit, out, _ = self.counted()
        if thing not in out:
            return "NotOut", thing
        return self.did(f"bring {thing}") if visit else ("NotCome", None)

    def bring_by(self, habit):
        text, visit, out, _ = self.counted()
        if habit not in [*habits_of(Case(text)), "steepest 3"]:
            return "BadHabit", habit
        if not out:
            return "Empty", None
        if visit is None:
            return "NotCome", None
        thing = DayByDay(text).takes(habit, out, *visit)
        self.did(f"bring {thing}")
        return thing

    def change(self, number, line):
        text = self.counted()[0]
        rows = text.split("\n")
        if not 0 < number <= len(rows):
            return "NoLine", number
        rows[number - 1] = line
        try:
            case = Case("\n".join(rows))
        except FineError as error:
            return "BadCase", error.value
        if (case.kinds, case.things) != (Case(text).kinds, Case(text).things):
            return "BadCase", number
        return self.did(f"change {number} {line}")

    def undo(self):
        if not self.lines:
            return "NothingToUndo", None
        self.back = [*self.back, self.lines[-1]]
        self.lines = self.lines[:-1]
        return None

    def redo(self):
        if not self.back:
            return "NothingToRedo", None
        self.lines = [*self.lines, self.back[-1]]
        self.back = self.back[:-1]
        return None


class Otherwise(Exception):
    """An error that is none of the package."""


def outcome(deed, *arguments):
    """What a deed returns, or the error that it raises, as a plain count tells it."""
    try:
        return deed(*arguments)
    except FineError as error:
        return error.__class__.__name__, error.value


def made_deed(chance, text):
    """A deed by chance, some of them wrong: its name and arguments."""
    case = Case(text)
    way = chance.choice(("come", "come", "come", "bring", "bring_by", "change", "undo", "undo", "redo", "redo"))
    if way == "come":
        return way, chance.choice((0, 1, 2, 3, 5, 8, 13, 20, -1)), chance.choice([*case.kinds, "other"])
    if way == "bring":
        return way, chance.choice([*case.things, "other"])
    if way == "bring_by":
        return way, chance.choice([*habits_of(case), "steepest 3", "steepest 0", "row other"])
    if way == "change":
        lines = changed_lines(chance, text).split("\n")
        number = chance.randint(1, len(lines))
        line = lines[number - 1] if chance.random() < 0.8 else chance.choice(["nothing", "thing other due 0", lines[0]])
        return way, chance.choice((number, number, number, 0, len(lines) + 1)), line
    return (way,)


class CounterTest(unittest.TestCase):
    def alike(self, counter, plain, case):
        """That a counter tells what is counted."""
        text, visit, out, paid = plain.counted()
        told = (counter.case.text, counter.visit, counter.out, counter.paid, counter.journal, counter.done, counter.first.text)
        self.assertTrue(same(told, (text, visit, out, paid, tuple(plain.lines), len(plain.lines), plain.text)))
        self.assertEqual(len(counter), len(out))
        self.assertEqual([thing for thing in case.things if thing in counter], list(out))
        self.assertTrue(counter == read_counter(case, counter.journal))

    def walk(self, chance, counter, plain, case, depth):
        """Deeds by chance, and blocks of such."""
        for _ in range(chance.randint(3, 9)):
            if depth and chance.random() < 0.25:
                self.block(chance, counter, plain, case, depth)
            else:
                name, *arguments = made_deed(chance, plain.counted()[0])
                expected = getattr(plain, name)(*arguments)
                told = outcome(getattr(counter, name), *arguments)
                self.assertTrue(same(told, expected), (name, arguments, told, expected))
                self.found[expected[0] if isinstance(expected, tuple) else name] = True
            self.alike(counter, plain, case)

    def block(self, chance, counter, plain, case, depth):
        """A block, kept or not, left by an error or not."""
        ahead = plain.lines, plain.back
        keeps, error, look = chance.random() < 0.5, chance.choice((None, None, FineError, Otherwise)), chance.random() < 0.5

        def inside(held):
            self.assertIs(held, counter)
            if keeps and chance.random() < 0.5:
                self.assertIsNone(counter.keep())
            self.walk(chance, held, plain, case, depth - 1)
            if keeps:
                counter.keep()
            if error:
                raise error(7)
            return "told"

        try:
            if look:
                self.assertEqual(counter.tried(inside), "told")
            else:
                with counter.trial() as held:
                    inside(held)
        except (FineError, Otherwise) as caught:
            self.assertIs(caught.__class__, error)
        if error or not keeps:
            plain.lines, plain.back = ahead
        self.found["block", keeps, error, look] = True

    def test_against_a_plain_count(self):
        chance, self.found = random.Random(151), {}
        for text in made_cases(96, 151) + edge_cases() + [TEXT] * 4:
            case = Case(text)
            counter, plain = Counter(case), Plain(text)
            with self.subTest(text=text):
                self.alike(counter, plain, case)
                for _ in range(4):
                    self.walk(chance, counter, plain, case, 2)
                    other, ahead = counter.copy(), (plain.lines, plain.back)
                    self.assertTrue(other == counter)
                    self.walk(chance, other, plain, case, 1)
                    if chance.random() < 0.5:
                        plain.lines, plain.back = ahead
                    else:
                        counter = other
                    self.alike(counter, plain, case)
                self.assertEqual(outcome(counter.keep), ("NoTrial", None))
        words = {
            "come", "bring", "bring_by", "change", "undo", "redo", "BadVisit", "NotOut", "NotCome", "BadHabit", "Empty", "NoLine", "BadCase",
            "NothingToUndo", "NothingToRedo", *[("block", keeps, error, look) for keeps in (True, False) for error in (None, FineError, Otherwise) for look in (True, False)],
        }
        self.assertEqual(words - set(self.found), set())

    def test_at_first(self):
        case = Case(TEXT)
        counter = Counter(case)
        told = (counter.case, counter.first, counter.visit, counter.out, counter.paid, counter.done, counter.journal, len(counter))
        self.assertTrue(same(told, (case, case, None, ("a", "b"), 0, 0, (), 2)))
        self.assertEqual([value in counter for value in ("a", "b", "c", "", ("a",))], [True, True, False, False, False])

    def test_deeds_return_nothing_but_bring_by(self):
        counter = Counter(Case(TEXT))
        told = [
            counter.come(day=3, kind="plain"), counter.bring(thing="a"), counter.change(number=4, line="mercy mercy none"), counter.undo(),
            counter.redo(), counter.bring_by(habit="dearest"),
        ]
        self.assertEqual(told, [None, None, None, None, None, "b"])
        self.assertEqual((counter.out, len(counter), counter.paid), ((), 0, 6))

    def test_what_was_paid_stays_paid(self):
        counter = Counter(Case(TEXT))
        counter.come(5, "plain")
        counter.bring("a")
        counter.change(5, "thing a due 0 7 from 1")
        self.assertEqual((counter.paid, counter.out), (10, ("b",)))
        counter.change(6, "thing b due 0 7 from 1")
        counter.bring("b")
        self.assertEqual((counter.paid, counter.out), (45, ()))
        self.assertEqual(counter.first, Case(TEXT))
        self.assertEqual(counter.case, Case(TEXT).told(5, "thing a due 0 7 from 1").told(6, "thing b due 0 7 from 1"))
        for _ in range(2):
            counter.undo()
        self.assertEqual((counter.paid, counter.case.bill("b", "plain")[5]), (10, 10))

    def test_redo_behind_another_deed(self):
        counter = Counter(Case(TEXT))
        counter.come(3, "plain")
        counter.bring("a")
        counter.undo()
        # What is refused is no deed, and leaves what can be done again.
        self.assertEqual(outcome(counter.bring, "c"), ("NotOut", "c"))
        self.assertEqual(outcome(counter.come, 2, "plain"), ("BadVisit", (2, "plain")))
        counter.redo()
        self.assertEqual(counter.journal, ("come 3 plain", "bring a"))
        counter.undo()
        counter.bring("a")
        self.assertEqual(outcome(counter.redo), ("NothingToRedo", None))
        counter.undo()
        counter.undo()
        self.assertEqual(outcome(counter.undo), ("NothingToUndo", None))
        counter.redo()
        counter.redo()
        self.assertEqual((counter.journal, counter.done), (("come 3 plain", "bring a"), 2))
        self.assertEqual(outcome(counter.redo), ("NothingToRedo", None))

    def test_the_same_visit_again(self):
        counter = Counter(Case("kinds p q\nafter p q\nthing w due 0 1 from 1"))
        for _ in range(3):
            counter.come(4, "p")
        self.assertEqual((counter.done, counter.visit), (3, (4, "p")))
        self.assertEqual(outcome(counter.come, 5, "p"), ("BadVisit", (5, "p")))
        counter.change(2, "after p p q")
        counter.come(5, "p")
        self.assertEqual(counter.journal[3:], ("change 2 after p p q", "come 5 p"))

    def test_days_far_out(self):
        far = 10 ** 39
        counter = Counter(Case(f"kinds p\nafter p p\nthing w due {far} {far} from 1"))
        counter.come(3 * far, "p")
        counter.bring("w")
        self.assertEqual((counter.paid, counter.journal), (2 * far * far, (f"come {3 * far} p", "bring w")))
        self.assertEqual(read_counter(counter.first, counter.journal).paid, 2 * far * far)
        long = 10 ** 5000
        counter.come(long, "p")
        self.assertEqual(read_counter(counter.first, counter.journal).visit, (long, "p"))


class SameTest(unittest.TestCase):
    def test_equal_by_journals_and_first_cases(self):
        case = Case(TEXT)
        one, other = Counter(case), Counter(Case(TEXT))
        self.assertTrue(one == other and not one != other)
        one.come(3, "plain")
        self.assertTrue(one != other)
        other.come(3, "plain")
        self.assertTrue(one == other)
        one.bring("b")
        other.bring_by("row b a")
        self.assertTrue(one == other)
        one.undo()
        other.undo()
        other.come(3, "plain")
        other.undo()
        # What can be done again is not in the journal.
        self.assertTrue(one == other)
        one.change(4, "mercy mercy none")
        self.assertTrue(one != other)
        changed = Counter(one.case)
        changed.come(3, "plain")
        self.assertTrue(changed != other and changed.case == one.case and changed != one)

    def test_equal_nothing_else(self):
        counter = Counter(Case(TEXT))
        for value in (None, 0, (), "", Case(TEXT), counter.journal, [counter], FineError(1)):
            self.assertFalse(counter == value)
            self.assertTrue(counter != value)

    def test_copies_are_independent(self):
        counter = Counter(Case(TEXT))
        counter.come(3, "plain")
        counter.bring("a")
        counter.undo()
        other = counter.copy()
        self.assertTrue(other == counter and other is not counter)
        other.redo()
        self.assertEqual((counter.journal, other.journal), (("come 3 plain",), ("come 3 plain", "bring a")))
        counter.bring("b")
        self.assertEqual((counter.out, other.out), (("a",), ("b",)))
        self.assertEqual((counter.paid, other.paid), (0, 6))

    def test_copies_within_a_block_are_outside_of_it(self):
        counter = Counter(Case(TEXT))
        counter.come(3, "plain")
        with counter.trial() as held:
            held.bring("a")
            other = held.copy()
            self.assertEqual(outcome(other.keep), ("NoTrial", None))
            other.undo()
            other.redo()
            with other.trial():
                other.bring("b")
                self.assertEqual(counter.out, ("b",))
        self.assertEqual((counter.out, other.out, other.journal), (("a", "b"), ("b",), ("come 3 plain", "bring a")))
        self.assertEqual(outcome(other.keep), ("NoTrial", None))


if __name__ == "__main__":
    unittest.main()
