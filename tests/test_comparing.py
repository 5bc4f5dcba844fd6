"""Point 11: cases beside one another."""

import itertools
import random
import unittest

from finestairs.cases import Case
from finestairs.comparing import compared, first_apart, shows_compared
from finestairs.errors import OtherCase
from tests.helper import DayByDay, any_values, changed_lines, edge_cases, made_cases, refused, same

TEXT = (
    "kinds plain mercy\nafter plain plain mercy\nafter mercy plain mercy\nmercy mercy top 4\n"
    "thing a due 0 2 from 1, top 20\nthing b due 3 5 from 1, lost 5 12"
)
DAYS = 40
WORDS = {(False, False): "alike", (True, False): "never more", (False, True): "never less", (True, True): "open"}


def two_cases(many, seed):
    """Two texts each, of cases with the same kinds and things."""
    chance = random.Random(seed)
    return [(text, changed_lines(chance, text)) for text in made_cases(many, seed) + edge_cases()]


def places(own):
    """All days, things and kinds, those of the first day first."""
    return itertools.product(range(DAYS), own.things, own.kinds)


def unlike(own, other):
    """All days, things and kinds on which bills differ, those of the first day first."""
    return [(day, thing, kind) for day, thing, kind in places(own) if own.number(thing, kind, day) != other.number(thing, kind, day)]


class ComparedTest(unittest.TestCase):
    def test_against_each_day(self):
        found = {}
        for text, its in two_cases(240, 61):
            case, other, own, others = Case(text), Case(its), DayByDay(text), DayByDay(its)
            apart = unlike(own, others)
            less = any(own.number(thing, kind, day) < others.number(thing, kind, day) for day, thing, kind in apart)
            more = any(own.number(thing, kind, day) > others.number(thing, kind, day) for day, thing, kind in apart)
            with self.subTest(text=text, its=its):
                told = compared(case, other)
                self.assertEqual((told.__class__, told[0]), (tuple, WORDS[less, more]))
                self.assertIs(shows_compared(case, other, told), True)
                found[told[0]] = found.get(told[0], 0) + 1
                if told[0] == "open":
                    _, (one, (day, kind)), (thing, (then, behind)) = told
                    self.assertLess(own.number(one, kind, day), others.number(one, kind, day))
                    self.assertGreater(own.number(thing, behind, then), others.number(thing, behind, then))
                else:
                    self.assertEqual(len(told), 1)
                back = {"never more": "never less", "never less": "never more"}.get(told[0], told[0])
                self.assertEqual(compared(other, case)[0], back)
                self.assertEqual(first_apart(case, other), apart[0] if apart else None)
                self.assertTrue(same(first_apart(other, case), first_apart(case, other)))
        self.assertGreater(min(found[word] for word in WORDS.values()), 20, found)

    def test_days_far_out(self):
        far = 10 ** 39
        case = Case(f"kinds p q\nmercy q top {far}\nthing w due 5 1 from 1\nthing x due {far} {far} from {far}, lost {9 * far} 1")
        for number, line, apart, word in (
            (2, f"mercy q top {far - 1}", (far + 5, "w", "q"), "never less"),
            (2, f"mercy q top {far + 1}", (far + 6, "w", "q"), "never more"),
            (4, f"thing x due {far} {far} from {far}, lost {9 * far} 2", (10 * far, "x", "p"), "never more"),
            (4, f"thing x due {far} {far} from {far}, lost {9 * far - 1} 1", (10 * far - 1, "x", "p"), "never less"),
            (4, f"thing x due {far} {far - 1} from {far - 1}, lost {9 * far} 1", (2 * far - 1, "x", "p"), "open"),
            (3, f"thing w due 5 1 from 1, top {far}", (far + 6, "w", "p"), "never less"),
        ):
            other = case.told(number, line)
            self.assertEqual((first_apart(case, other), compared(case, other)[0]), (apart, word), line)
            self.assertIs(shows_compared(case, other, compared(case, other)), True)

    def test_the_first_thing_and_then_the_first_kind(self):
        case = Case("kinds q p\nthing x due 0 2 from 1\nthing a due 0 2 from 1")
        for lines, apart in (
            ([(2, "thing x due 1 2 from 1"), (3, "thing a due 1 2 from 1")], (1, "x", "q")),
            ([(3, "thing a due 1 2 from 1")], (1, "a", "q")),
            ([(2, "thing x due 0 2 from 1, top 2"), (3, "thing a late 0 3 from 1")], (1, "a", "q")),
        ):
            other = case
            for line in lines:
                other = other.told(*line)
            self.assertEqual(first_apart(case, other), apart)
        case = Case("kinds q p\nmercy q none\nmercy p top 0\nthing x due 0 2 from 1\nthing a due 0 2 from 1")
        self.assertEqual(first_apart(case, case.told(3, "mercy p top 1")), (1, "x", "p"))
        self.assertEqual(first_apart(case, case.told(3, "mercy p none").told(2, "mercy q top 0")), None)

    def test_alike_with_other_lines(self):
        case = Case("kinds p q\nafter p p\nmercy q top 0\nthing w due 2 3 from 1")
        for other in (
            case, case.told(2, "after p p q"), case.told(3, "mercy q none"), case.told(4, "thing w due 1 3 from 2"),
            case.told(4, "thing w due 2 free 0, 3 from 1"), case.told(4, "thing w due 1 free 1, 3 from 1"), Case("kinds p q\nmercy q none\nthing w due 2 3 from 1"),
        ):
            self.assertEqual((compared(case, other), first_apart(case, other)), (("alike",), None))
            self.assertIs(shows_compared(case, other, ("alike",)), True)
            for word in ("never more", "never less", "open"):
                self.assertIs(shows_compared(case, other, (word,)), False)

    def test_by_name_and_equal_calls(self):
        case = Case(TEXT)
        other = case.told(4, "mercy mercy top 3").told(5, "thing a due 0 3 from 1, top 20")
        told = compared(other=other, case=case)
        self.assertEqual(told[0], "open")
        self.assertTrue(same(told, compared(Case(TEXT), Case(other.text))))
        self.assertIs(shows_compared(value=told, other=other, case=case), True)
        self.assertEqual(first_apart(other=other, case=case), (1, "a", "plain"))
        self.assertEqual(case, Case(TEXT))


class ShowsComparedTest(unittest.TestCase):
    def test_just_the_right_visits(self):
        rights = 0
        for text, its in two_cases(96, 62):
            case, other, own, others = Case(text), Case(its), DayByDay(text), DayByDay(its)
            told = compared(case, other)
            for day, thing, kind in itertools.islice(places(own), 0, 160, 3):
                less = own.number(thing, kind, day) < others.number(thing, kind, day)
                more = own.number(thing, kind, day) > others.number(thing, kind, day)
                place = (thing, (day, kind))
                ends = told[1:] if told[0] == "open" else (place, place)
                rights += less or more
                self.assertIs(shows_compared(case, other, ("open", place, ends[1])), less and told[0] == "open")
                self.assertIs(shows_compared(case, other, ("open", ends[0], place)), more and told[0] == "open")
        self.assertGreater(rights, 200)

    def test_otherwise(self):
        case = Case(TEXT)
        other = case.told(4, "mercy mercy top 3").told(5, "thing a due 0 3 from 1, top 20")
        one, its = ("a", (1, "plain")), ("b", (9, "mercy"))
        right = lambda value: shows_compared(case, other, value)
        self.assertIs(right(("open", one, its)), True)
        self.assertIs(shows_compared(other, case, ("open", its, one)), True)
        for value in (
            ("open", its, one), ("open", one, one), ("open", its, its), ("open", one), ("open",), ("open", one, its, ()), ["open", one, its],
            ("open", list(one), its), ("open", one, list(its)), ("open", ("b", (1, "plain")), its), ("open", ("a", (0, "plain")), its),
            ("open", ("a", (True, "plain")), its), ("open", ("a", [1, "plain"]), its), ("open", ("a", (2, "mercy")), its),
            ("open", ("a", 1, "plain"), its), ("open", (0, (1, "plain")), its), ("open", ("a", (1, 0)), its), ("open", ("c", (1, "plain")), its),
            ("open", ("a", (-1, "plain")), its), ("open", ("a", (1, "other")), its), ("never more",), ("never less",), ("alike",), "open",
        ):
            self.assertIs(right(value), False, value)
        for at in range(3):
            for value in any_values():
                changed = [*("open", one, its)]
                changed[at] = value
                self.assertIs(right(tuple(changed)), False, value)

    def test_any_value(self):
        case = Case(TEXT)
        for other in (case, case.told(4, "mercy mercy top 3"), case.told(4, "mercy mercy top 5")):
            told = compared(case, other)
            for value in any_values():
                self.assertIs(shows_compared(case, other, value), same(value, told))
                self.assertIs(shows_compared(case, other, (*told, value)), False)
            for word in ("alike", "never more", "never less", "Alike", "", "open"):
                self.assertIs(shows_compared(case, other, (word,)), word == told[0])
                self.assertIs(shows_compared(case, other, [word]), False)
                self.assertIs(shows_compared(case, other, word), False)


class WrongTest(unittest.TestCase):
    def refused(self, case, other):
        refused(self, OtherCase, other, compared, case, other)
        refused(self, OtherCase, other, first_apart, case, other)
        for value in (("alike",), None):
            refused(self, OtherCase, other, shows_compared, case, other, value)

    def test_other_cases(self):
        case = Case(TEXT)
        lines = TEXT.split("\n")
        for other in (
            TEXT.replace("plain", "plane"), "\n".join(["kinds mercy plain", *lines[1:]]), "\n".join(lines[:5]), "\n".join([*lines, "thing c due 3"]),
            "\n".join([*lines[:4], lines[5], lines[4]]), TEXT.replace("thing b", "thing c"), TEXT.replace("kinds plain", "kinds more plain"),
            "kinds plain\nthing a due 0\nthing b due 0",
        ):
            self.refused(case, Case(other))
            self.refused(Case(other), case)

    def test_any_value(self):
        case = Case(TEXT)
        for other in (*any_values(), TEXT, (case,), [case], {"case": case}):
            self.refused(case, other)


if __name__ == "__main__":
    unittest.main()
