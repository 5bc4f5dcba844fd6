"""Point 12: the least change by which coming later is never cheaper."""

import itertools
import random
import unittest

from finestairs.cases import Case
from finestairs.errors import Endless, NoThing
from finestairs.later import later
from finestairs.mending import mended, shows_mended
from finestairs.stairs import Stairs
from tests.helper import DayByDay, any_values, edge_cases, made_cases, refused, same

TEXT = (
    "kinds plain mercy\nafter plain plain mercy\nafter mercy plain mercy\nmercy mercy top 4\n"
    "thing a due 0 2 from 1, top 20\nthing b due 3 5 from 1, lost 5 12"
)
DAYS = 16
FAR = 36


def can_be_mended(own, thing, number, days):
    """Whether bills no further away than this number can be such, going up from the first day on as little as can be."""
    most = {kind: 0 for kind in own.kinds}
    for day in range(days):
        least = {kind: max(most[kind], own.number(thing, kind, day) - number, 0) for kind in own.kinds}
        if any(least[kind] > own.number(thing, kind, day) + number for kind in own.kinds):
            return False
        for kind, behind in itertools.product(own.kinds, repeat=2):
            if behind in own.after[kind]:
                most[behind] = max(most[behind], least[kind])
    return True


def are_such_bills(own, thing, number, stairs):
    """Whether Stairs are such bills, day by day."""
    by_kind = dict(zip(own.kinds, stairs))
    near = all(
        by_kind[kind][day] >= 0 and abs(by_kind[kind][day] - own.number(thing, kind, day)) <= number
        for kind, day in itertools.product(own.kinds, range(FAR))
    )
    highest = {kind: [max(by_kind[kind][day] for day in range(end)) for end in range(1, FAR)] for kind in own.kinds} if near else {}
    return near and all(
        highest[kind][day - 1] <= by_kind[behind][day]
        for kind in own.kinds for behind in own.after[kind] for day in range(1, FAR)
    )


class MendedTest(unittest.TestCase):
    def test_against_each_day(self):
        odd = {}
        for text in made_cases(120, 71) + edge_cases() + [TEXT]:
            case, own = Case(text), DayByDay(text)
            for thing in case.things:
                told = later(case, thing)
                with self.subTest(text=text, thing=thing):
                    if told[0] == "endless":
                        refused(self, Endless, thing, mended, case, thing)
                        refused(self, Endless, thing, shows_mended, case, thing, (0, ()))
                        odd["endless"] = odd.get("endless", 0) + 1
                        continue
                    number, stairs = mended(case, thing)
                    self.assertEqual((number.__class__, stairs.__class__, len(stairs)), (int, tuple, len(case.kinds)))
                    saved = told[1] if told[0] == "saves" else 0
                    self.assertEqual(number, (saved + 1) // 2)
                    self.assertTrue(can_be_mended(own, thing, number, FAR))
                    self.assertFalse(number > 0 and can_be_mended(own, thing, number - 1, FAR))
                    self.assertTrue(all(isinstance(one, Stairs) for one in stairs))
                    self.assertTrue(are_such_bills(own, thing, number, stairs))
                    self.assertIs(shows_mended(case, thing, (number, stairs)), True)
                    odd[saved % 2 if saved else "none"] = odd.get(saved % 2 if saved else "none", 0) + 1
        self.assertGreater(min(odd[word] for word in (0, 1, "none", "endless")), 10, odd)

    def test_half_of_what_is_saved(self):
        for lost, saved, number in ((15, 0, 0), (14, 1, 1), (13, 2, 1), (12, 3, 2), (8, 7, 4), (0, 15, 8)):
            case = Case(f"kinds p\nafter p p\nthing w due 0 5 from 1, lost 4 {lost}")
            self.assertEqual(later(case, "w")[1] if saved else 0, saved)
            told = mended(case, "w")
            self.assertEqual(told[0], number)
            self.assertIs(shows_mended(case, "w", told), True)
            self.assertIs(shows_mended(case, "w", (number + 1, told[1])), False)

    def test_nothing_saved_is_left_as_it_is(self):
        case = Case("kinds p q\nafter p p\nafter q p q\nmercy q top 4\nthing w due 0 2 from 1, top 20")
        self.assertEqual(mended(case, "w"), (0, (case.bill("w", "p"), case.bill("w", "q"))))
        # No day can come behind another one, so nothing is saved whatever is asked on it.
        case = Case("kinds p q\nmercy q none\nthing w due 0 9 from 1, lost 4 1")
        self.assertEqual(mended(case, "w"), (0, (case.bill("w", "p"), case.bill("w", "q"))))

    def test_bills_do_not_go_below_nothing(self):
        case = Case("kinds p q\nafter p q\nmercy q none\nthing w due 0 7 from 1, top 7")
        number, stairs = mended(case, "w")
        self.assertEqual(number, 4)
        self.assertTrue(all(one.bottom >= 0 for one in stairs))
        below = (Stairs(((0, -4, 0), (1, 3, 0))), stairs[1])
        self.assertIs(shows_mended(case, "w", (4, below)), False)
        self.assertIs(shows_mended(case, "w", (4, (Stairs(((0, 0, 0), (1, 3, 0))), stairs[1]))), True)

    def test_days_far_out(self):
        far, much = 10 ** 20, 10 ** 39
        case = Case(f"kinds p q\nafter p p q\nafter q p q\nmercy q top {much}\nthing w due {far} {much} from {far}, lost {3 * far} 7\nthing x due 1 5 from 1")
        most = much * (2 * far)
        told = mended(case, "w")
        self.assertEqual(told[0], (most - 7 + 1) // 2)
        self.assertIs(shows_mended(case, "w", told), True)
        refused(self, Endless, "x", mended, case, "x")
        case = Case(f"kinds p\nafter p p\nthing w late {much} {much} from 1")
        self.assertEqual(mended(case, "w"), (0, (case.bill("w", "p"),)))

    def test_by_name_and_equal_calls(self):
        case = Case(TEXT)
        told = mended(thing="b", case=case)
        self.assertEqual(told[0], 8)
        self.assertTrue(same(told, mended(Case(TEXT), "b")))
        self.assertIs(shows_mended(value=told, thing="b", case=case), True)
        self.assertEqual(case, Case(TEXT))


class ShowsMendedTest(unittest.TestCase):
    def test_just_the_right_bills(self):
        chance, rights = random.Random(72), []
        for text in made_cases(64, 72) + edge_cases():
            case, own = Case(text), DayByDay(text)
            for thing in case.things:
                if later(case, thing)[0] != "endless":
                    number, stairs = mended(case, thing)
                    for _ in range(12):
                        at, day, by = chance.randrange(len(stairs)), chance.choice((0, 1, 2, 4, 7, 12)), chance.choice((-2, -1, 1, 1, 2))
                        more = chance.choice((
                            Stairs(((0, by, 0),)), Stairs(((0, 0, 0), (day + 1, by, 0))), Stairs(((0, by, 0), (day + 1, 0, 0))),
                            Stairs(((0, 0, 0), (day + 1, by, 0), (day + 2, 0, 0))), Stairs(((0, 0, 0), (day + 1, 0, by))),
                        ))
                        told = (*stairs[:at], stairs[at] + more, *stairs[at + 1:])
                        right = are_such_bills(own, thing, number, told)
                        rights.append(right)
                        self.assertIs(shows_mended(case, thing, (number, told)), right, (text, thing, told))
        self.assertGreater(min(rights.count(True), rights.count(False)), 40)

    def test_other_bills(self):
        case = Case(TEXT)
        number, stairs = mended(case, "b")
        as_told = Stairs.of("0 0 0, 5 2 5, 8 12 0"), Stairs.of("0 0 0, 6 2 5, 9 12 0")
        self.assertIs(shows_mended(case, "b", (8, as_told)), True)
        higher = Stairs(((0, 8, 0), (5, 10, 2), (6, 12, 0)))
        self.assertIs(shows_mended(case, "b", (8, (higher, higher))), True)
        self.assertIs(shows_mended(case, "b", (8, (higher, higher + Stairs(((0, 1, 0),))))), False)
        self.assertIs(shows_mended(case, "b", (8, (higher, higher - Stairs(((0, 0, 0), (9, 1, 0)))))), False)

    def test_otherwise(self):
        case = Case(TEXT)
        number, stairs = mended(case, "b")
        for value in (
            (number, list(stairs)), [number, stairs], (number, stairs[:1]), (number, (*stairs, stairs[0])), (number, stairs[::-1]), (number,),
            (number, stairs, 0), (stairs, number), (str(number), stairs), (number - 1, stairs), (number + 1, stairs), (-number, stairs),
            (number, (stairs[0], stairs[1].pieces)), (number, (stairs[0], None)), (number, tuple(one.text for one in stairs)), stairs, number,
        ):
            self.assertIs(shows_mended(case, "b", value), False, value)
        calm = Case("kinds p\nafter p p\nthing w due 0 2 from 1")
        bills = (calm.bill("w", "p"),)
        self.assertIs(shows_mended(calm, "w", (0, bills)), True)
        self.assertIs(shows_mended(calm, "w", (False, bills)), False)
        one = Case("kinds p\nafter p p\nthing w due 0 2 from 1, lost 2 1")
        self.assertEqual(mended(one, "w")[0], 1)
        self.assertIs(shows_mended(one, "w", (True, mended(one, "w")[1])), False)

    def test_any_value(self):
        case = Case(TEXT)
        number, stairs = mended(case, "b")
        for value in any_values():
            self.assertIs(shows_mended(case, "b", value), False)
            for other in ((value, stairs), (number, value), (number, (value, stairs[1])), (number, (*stairs, value))):
                self.assertIs(shows_mended(case, "b", other), False, other)


class WrongTest(unittest.TestCase):
    def test_any_value_as_thing(self):
        case = Case(TEXT)
        for value in (*any_values(), "c", "A", " a", "plain"):
            if value not in ("a", "b"):
                refused(self, NoThing, value, mended, case, value)
                refused(self, NoThing, value, shows_mended, case, value, (0, ()))


if __name__ == "__main__":
    unittest.main()
