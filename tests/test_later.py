"""Point 7: floors, what coming later saves, and what shows it."""

import unittest

from finestairs.cases import Case
from finestairs.errors import NoThing
from finestairs.later import later, shows_later
from finestairs.stairs import Stairs
from tests.helper import DayByDay, any_values, edge_cases, made_cases, refused, same

TEXT = (
    "kinds plain mercy\nafter plain plain mercy\nafter mercy plain mercy\nmercy mercy top 4\n"
    "thing a due 0 2 from 1, top 20\nthing b due 3 5 from 1, lost 5 12"
)
CALM = "kinds plain mercy\nafter plain plain\nafter mercy plain mercy\nmercy mercy top 4\nthing a due 0 2 from 1, top 20"
DAYS = 22
FAR = 40


class LaterTest(unittest.TestCase):
    def floors(self, own, thing, told):
        """That these are floors, day by day."""
        self.assertEqual(len(told), len(own.kinds))
        by_kind = dict(zip(own.kinds, told))
        for kind in own.kinds:
            self.assertIsInstance(by_kind[kind], Stairs)
            for day in range(FAR):
                self.assertGreaterEqual(by_kind[kind][day], own.number(thing, kind, day))
                self.assertLessEqual(by_kind[kind][day], by_kind[kind][day + 1])
                for other in own.after[kind]:
                    self.assertLessEqual(by_kind[kind][day], own.number(thing, other, day + 1))

    def endless(self, own, thing, one, other):
        """That moving both visits on saves more and more, day by day."""
        (day, kind), (then, behind) = one, other
        self.assertTrue(one == other or (day < then and behind in own.after[kind]))
        for days in range(FAR):
            saved = own.number(thing, kind, day + days) - own.number(thing, behind, then + days)
            self.assertGreaterEqual(saved, days)

    def test_against_all_visits(self):
        found = {}
        for text in made_cases(160, 3) + edge_cases() + [TEXT, CALM]:
            case, own = Case(text), DayByDay(text)
            for thing in case.things:
                with self.subTest(text=text, thing=thing):
                    told = later(case, thing)
                    self.assertIsInstance(told, tuple)
                    self.assertIs(shows_later(case, thing, told), True)
                    found[told[0]] = found.get(told[0], 0) + 1
                    most = own.saved(thing, DAYS)
                    if told[0] == "never":
                        self.assertEqual((len(told), most), (2, 0))
                        self.floors(own, thing, told[1])
                    elif told[0] == "saves":
                        self.assertEqual(told[:2], ("saves", most))
                        self.assertGreater(most, 0)
                        one, other = told[2:]
                        saved = own.number(thing, one[1], one[0]) - own.number(thing, other[1], other[0])
                        self.assertEqual(saved, most)
                        self.assertTrue(one[0] < other[0] and other[1] in own.after[one[1]])
                    else:
                        self.assertEqual((told[0], len(told)), ("endless", 3))
                        self.endless(own, thing, *told[1:])
        self.assertGreater(min(found["never"], found["saves"], found["endless"]), 9, found)

    def test_shows_saves_just_the_right_pairs(self):
        for text in made_cases(24, 4)[:24]:
            case, own = Case(text), DayByDay(text)
            for thing in case.things[:2]:
                told = later(case, thing)
                for one, other in list(own.pairs(7)):
                    saved = own.number(thing, one[1], one[0]) - own.number(thing, other[1], other[0])
                    right = told[0] == "saves" and saved == told[1]
                    self.assertIs(shows_later(case, thing, ("saves", saved, one, other)), right)
                    self.assertIs(shows_later(case, thing, ("saves", saved + 1, one, other)), False)

    def test_shows_endless_just_the_right_pairs(self):
        for text in [*made_cases(16, 5), TEXT.replace(", top 20", "")]:
            case, own = Case(text), DayByDay(text)
            for thing in case.things[:2]:
                for one, other in list(own.pairs(6)):
                    right = all(
                        own.number(thing, one[1], one[0] + days) - own.number(thing, other[1], other[0] + days) >= days
                        for days in range(FAR)
                    )
                    self.assertIs(shows_later(case, thing, ("endless", one, other)), right)

    def test_shows_any_floors(self):
        # Other floors than the least ones are floors, too; but not such ones as are too low, fall or are too high.
        case = Case("kinds p q\nafter p q\nmercy p top 6\nthing w due 0 2 from 1")
        low, high, rise = Stairs(((0, 0, 2), (4, 6, 0))), Stairs(((0, 0, 2),)), Stairs(((0, 1, 2), (3, 6, 0)))
        for one, other, right in (
            (low, high, True), (low, high * 2, True), (Stairs(((0, 1, 2),)), high, True), (Stairs(((0, 2, 2),)), high, True),
            (Stairs(((0, 3, 2),)), high, False), (rise, high, True), (rise - Stairs(((0, 2, 0),)), high, False),
            (Stairs(((0, 2, 2), (5, 11, 0))), high, True), (Stairs(((0, 2, 2), (5, 12, -1), (6, 13, 0))), high, True),
            (Stairs(((0, 2, 2), (5, 12, -1), (6, 11, 0))), high, False), (low, low, False), (low, -high, False),
            (low, high | Stairs(((0, 5, 0),)), True), (low, high | Stairs(((0, 9, -1), (3, 0, 0))), False),
            (high, low, False), (low, Stairs(((0, 0, 2), (5, 13, 0), (6, 12, 2))), False),
        ):
            with self.subTest(one=one, other=other):
                self.assertIs(shows_later(case, "w", ("never", (one, other))), right)
                self.assertIs(shows_later(case, "w", ("never", [one, other])), False)
        for floors in ((low,), (low, high, high), (), low, None, (low, high.pieces), (low, high.text), (low, None)):
            self.assertIs(shows_later(case, "w", ("never", floors)), False)
        many = Stairs(tuple((2 * day, 2 * day + day, 1) for day in range(60)))
        self.assertIs(shows_later(case, "w", ("never", (low, high | many))), True)

    def test_never_can_be_shown_of_nothing_else(self):
        case = Case(TEXT)
        floors = tuple(case.bill("b", kind).so_far for kind in case.kinds)
        self.assertIs(shows_later(case, "b", ("never", floors)), False)

    def test_kinds_behind_which_nothing_comes(self):
        case = Case("kinds p q\nmercy q none\nthing w due 0 5 from 1, lost 3 1")
        self.assertEqual(later(case, "w")[0], "never")
        case = case.told(1, "kinds p q r").told(2, "mercy r none")
        self.assertEqual(later(case, "w")[0], "never")
        case = Case("kinds p q\nafter p q\nmercy q none\nthing w due 0 5 from 1, lost 3 1")
        self.assertEqual(later(case, "w"), ("saves", 10, (2, "p"), (3, "q")))
        case = Case("kinds p q\nafter p q\nmercy q none\nthing w due 0 5 from 1")
        self.assertEqual(later(case, "w")[0], "endless")
        case = Case("kinds p q\nafter q p\nmercy q none\nthing w due 0 5 from 1")
        self.assertEqual(later(case, "w")[0], "never")

    def test_rises_of_one_steepness(self):
        case = Case("kinds p q\nafter p q\nmercy q less 7\nthing w due 0 5 from 1")
        self.assertEqual(later(case, "w")[:2], ("saves", 2))
        # Each day more is asked by 5, so that coming a day later saves 7 less 5.
        self.assertEqual([shows_later(case, "w", ("saves", 2, (day, "p"), (day + 1, "q"))) for day in (0, 1, 2, 10 ** 39)], [False, True, True, True])

    def test_days_far_out(self):
        far, much = 10 ** 20, 10 ** 39
        case = Case(f"kinds p\nafter p p\nthing w due {far} {much} from {far}, lost {3 * far} 7")
        most = much * (2 * far) - 7
        self.assertEqual(later(case, "w"), ("saves", most, (4 * far - 1, "p"), (4 * far, "p")))
        self.assertIs(shows_later(case, "w", ("saves", most, (4 * far - 1, "p"), (much, "p"))), True)
        self.assertIs(shows_later(case, "w", ("saves", most, (4 * far - 2, "p"), (much, "p"))), False)
        case = Case(f"kinds p q\nafter p q\nmercy q top {much}\nthing w due {far} 1 from {far}")
        told = later(case, "w")
        self.assertEqual(told[0], "endless")
        self.assertIs(shows_later(case, "w", told), True)
        self.assertIs(shows_later(case, "w", ("endless", (2 * far + much - 1, "p"), (2 * far + much, "q"))), True)
        self.assertIs(shows_later(case, "w", ("endless", (2 * far + much - 2, "p"), (2 * far + much, "q"))), False)
        self.assertIs(shows_later(case, "w", ("endless", (10 ** 60, "p"), (10 ** 61, "q"))), True)

    def test_a_price_at_the_bound(self):
        for price, told in ((7, "saves"), (8, "never"), (9, "never")):
            case = Case(f"kinds p\nafter p p\nthing w due 0 2 from 1, lost 5 {price}")
            self.assertEqual(later(case, "w")[0], told)

    def test_by_name_and_equal_calls(self):
        case = Case(TEXT)
        told = later(case=case, thing="b")
        self.assertTrue(same(told, later(Case(TEXT), "b")))
        self.assertIs(shows_later(case=case, thing="b", value=told), True)
        self.assertEqual(case, Case(TEXT))


class WrongTest(unittest.TestCase):
    def test_no_thing(self):
        case = Case(TEXT)
        for value in [*any_values(), "plain", "c", "a b"]:
            if not (value.__class__ is str and value in ("a", "b")):
                refused(self, NoThing, value, later, case, value)
                refused(self, NoThing, value, shows_later, case, value, value)
                refused(self, NoThing, value, later, case=case, thing=value)

    def test_any_value_is_shown_or_not(self):
        for text, thing in ((TEXT, "b"), (CALM, "a"), (TEXT.replace(", top 20", ""), "a")):
            case = Case(text)
            told = later(case, thing)
            for value in any_values():
                self.assertIs(shows_later(case, thing, value), False)
                for at in range(len(told)):
                    other = (*told[:at], value, *told[at + 1:])
                    self.assertIs(shows_later(case, thing, other), value == told[at] and same(value, told[at]), other)
            self.assertIs(shows_later(case, thing, list(told)), False)
            self.assertIs(shows_later(case, thing, (*told, None)), False)
            self.assertIs(shows_later(case, thing, told[:-1]), False)
            self.assertIs(shows_later(case, thing, (told,)), False)

    def test_otherwise_by_a_number_a_day_or_a_kind(self):
        case = Case(TEXT)
        most, right = 16, ("saves", 16, (7, "plain"), (9, "mercy"))
        self.assertIs(shows_later(case, "b", right), True)
        for value in (
            ("saves", most + 1, *right[2:]), ("saves", most - 1, *right[2:]), ("saves", True, *right[2:]), ("saves", "16", *right[2:]),
            ("saves", most, (6, "plain"), (9, "mercy")), ("saves", most, (8, "plain"), (9, "mercy")), ("saves", most, (7, "plain"), (7, "mercy")),
            ("saves", most, (7, "mercy"), (9, "mercy")), ("saves", most, (7, "plain"), (9, "plain")), ("saves", most, (9, "mercy"), (7, "plain")),
            ("saves", most, [7, "plain"], (9, "mercy")), ("saves", most, (7, "plain", 0), (9, "mercy")), ("saves", most, (7, "b"), (9, "mercy")),
            ("Saves", *right[1:]), ("endless", *right[2:]), ("saves", *right[2:]), ("never", *right[2:]), ("saves", -most, right[3], right[2]),
        ):
            self.assertIs(shows_later(case, "b", value), False, value)
        self.assertIs(shows_later(case, "a", right), False)
        # Less is saved than can be.
        self.assertIs(shows_later(case, "b", ("saves", 8, (8, "plain"), (9, "mercy"))), False)
        # One is a day, True is none.
        low = Case("kinds p q\nafter p q\nmercy q none\nthing w late 0 1 from 1, lost 2 0")
        self.assertIs(shows_later(low, "w", ("saves", 1, (1, "p"), (2, "q"))), True)
        for value in (("saves", True, (1, "p"), (2, "q")), ("saves", 1, (True, "p"), (2, "q"))):
            self.assertIs(shows_later(low, "w", value), False)

    def test_visits_on_one_day(self):
        case = Case(TEXT)
        self.assertIs(shows_later(case, "b", ("saves", 0, (7, "plain"), (7, "plain"))), False)
        self.assertIs(shows_later(case, "b", ("endless", (7, "plain"), (7, "plain"))), False)
        self.assertIs(shows_later(Case(CALM), "a", ("saves", 0, (7, "plain"), (7, "plain"))), False)


if __name__ == "__main__":
    unittest.main()
