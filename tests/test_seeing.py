"""Point 14: bills that were seen, and what is asked next."""

import itertools
import random
import unittest

from finestairs.cases import Case
from finestairs.errors import BadSeen, CannotCome, NeverSo, NoKind, NoThing
from finestairs.seeing import asked_next, days_seen
from tests.helper import DayByDay, any_values, edge_cases, made_cases, refused, same, stretches

TEXT = (
    "kinds plain mercy\nafter plain plain mercy\nafter mercy plain mercy\nmercy mercy top 4\n"
    "thing a due 0 2 from 1, top 20\nthing b due 3 5 from 1, lost 5 12"
)
DAYS = 44
# All is straight from here on: what fits on days behind it fits without end.
STRAIGHT = 36


def can_follow(own, one, other):
    """Whether a visit can follow another one."""
    return one == other or (one[0] < other[0] and other[1] in own.after[one[1]])


def layers_of(own, seen):
    """For each visit, as far as there are any, the days of rows that fit all bills up to it, day by day."""
    layers = []
    for thing, kind, bill in seen:
        here = [(day, kind) for day in range(DAYS) if own.number(thing, kind, day) == bill]
        if layers:
            here = [visit for visit in here if any(can_follow(own, before, visit) for before in layers[-1])]
        if not here:
            break
        layers.append(here)
    return layers


def expected(own, seen):
    """What is to be told of the days, found by going along them."""
    layers = layers_of(own, seen)
    if len(layers) < len(seen):
        return ("never", len(layers))
    for at in range(len(seen) - 2, -1, -1):
        layers[at] = [visit for visit in layers[at] if any(can_follow(own, visit, behind) for behind in layers[at + 1])]
    # What has no end has none of these days ahead of it alone, so a row within them is as good as any.
    return ("days", tuple(stretches([day for day, _ in layer], STRAIGHT) for layer in layers))


def expected_next(own, seen, thing, kind):
    """What is to be told of the next bill; None if no visit can follow."""
    following = [
        (day, kind) for day in range(DAYS) if any(can_follow(own, visit, (day, kind)) for visit in layers_of(own, seen)[-1])
    ]
    numbers = [own.number(thing, kind, day) for day, _ in following]
    if not numbers:
        return None
    rises = following[-1][0] == DAYS - 1 and numbers[-1] > own.number(thing, kind, DAYS - 2)
    return min(numbers), None if rises else max(numbers)


def made_seen(chance, own):
    """Bills by chance: those of visits that follow one another, with a wrong one now and then."""
    seen, visit = [], (chance.randint(0, 6), chance.choice(own.kinds))
    for _ in range(chance.choice((1, 1, 2, 2, 3, 4, 6, 8))):
        bill = own.number(thing := chance.choice(own.things), visit[1], visit[0])
        if chance.random() < 0.06:
            bill += chance.choice((-1, 1, 3))
        seen.append((thing, visit[1] if chance.random() < 0.97 else chance.choice(own.kinds), bill))
        behind = own.after[visit[1]]
        if behind and chance.random() < 0.7:
            visit = (visit[0] + chance.choice((1, 1, 2, 4)), chance.choice(behind))
    return tuple(seen)


class DaysSeenTest(unittest.TestCase):
    def test_against_going_along_the_days(self):
        chance, found = random.Random(141), {}
        for text in (made_cases(80, 141) + edge_cases() + [TEXT]) * 4:
            case, own = Case(text), DayByDay(text)
            seen = made_seen(chance, own)
            if any(bill > 100 for _, _, bill in seen):
                continue
            with self.subTest(text=text, seen=seen):
                told = days_seen(case, seen)
                self.assertTrue(same(told, expected(own, seen)), (told, expected(own, seen)))
                many = min(2, len(told[1]) - 1) if told[0] == "days" else min(told[1], 2)
                found[told[0], many] = found.get((told[0], many), 0) + 1
        self.assertGreater(min(found[word, many] for word in ("days", "never") for many in range(3)), 5, found)

    def test_one_bill_with_stretches_and_without_end(self):
        case = Case("kinds p q\nafter p p\nmercy q top 4\nthing w due 2 5 from 1, lost 5 10\nthing x due 3 2 from 1")
        for one, days in (
            (("w", "p", 0), ((0, 2),)), (("w", "p", 5), ((3, 3),)), (("w", "p", 10), ((4, 4), (7, None))), (("w", "q", 4), ((3, None),)),
            (("x", "p", 8), ((7, 7),)), (("x", "q", 0), ((0, 3),)), (("x", "q", 2), ((4, 4),)), (("x", "q", 4), ((5, None),)),
        ):
            self.assertTrue(same(days_seen(case, (one,)), ("days", (days,))))
        for one in (("w", "p", 4), ("w", "q", 5), ("x", "p", 7), ("x", "p", -2), ("w", "p", -1)):
            self.assertTrue(same(days_seen(case, (one,)), ("never", 0)))

    def test_several_visits_on_one_day(self):
        case = Case("kinds p q\nafter p q\nthing w due 0 1 from 1\nthing x due 0 2 from 1, top 6")
        seen = (("w", "p", 4), ("x", "p", 6), ("w", "p", 4))
        self.assertEqual(days_seen(case, seen), ("days", (((4, 4),),) * 3))
        self.assertEqual(days_seen(case, (("x", "p", 6), ("w", "p", 4))), ("days", (((4, 4),),) * 2))
        self.assertEqual(days_seen(case, (("x", "p", 6), ("w", "p", 2))), ("never", 1))
        self.assertEqual(days_seen(case, (("x", "p", 6), ("x", "q", 6))), ("days", (((3, None),), ((4, None),))))
        # On one day there is one kind, and no day of kind p can come behind another one.
        self.assertEqual(days_seen(case, (("w", "p", 4), ("w", "q", 4))), ("never", 1))
        self.assertEqual(days_seen(case, (("w", "p", 4), ("w", "p", 5))), ("never", 1))
        self.assertEqual(days_seen(case, (("w", "q", 4), ("w", "p", 5))), ("never", 1))
        self.assertEqual(days_seen(case, (("w", "q", 4), ("w", "q", 4))), ("days", (((4, 4),),) * 2))

    def test_what_comes_behind_tells_of_days_ahead(self):
        case = Case("kinds p\nafter p p\nthing w due 3 1 from 1, lost 4 0\nthing x due 5 3 from 1")
        self.assertEqual(days_seen(case, (("w", "p", 0),)), ("days", (((0, 3), (7, None)),)))
        self.assertEqual(days_seen(case, (("w", "p", 0), ("x", "p", 9))), ("days", (((0, 3), (7, 8)), ((8, 8),))))
        self.assertEqual(days_seen(case, (("w", "p", 0), ("w", "p", 2))), ("days", (((0, 3),), ((5, 5),))))
        self.assertEqual(days_seen(case, (("w", "p", 2), ("w", "p", 0))), ("days", (((5, 5),), ((7, None),))))
        self.assertEqual(days_seen(case, (("x", "p", 0), ("x", "p", 0))), ("days", (((0, 5),), ((0, 5),))))
        calm = Case("kinds p q\nafter p q\nthing w due 0 1 from 1\nthing x due 0 lost 4 7")
        self.assertEqual(days_seen(calm, (("x", "p", 0), ("x", "q", 0))), ("days", (((0, 2),), ((1, 3),))))
        self.assertEqual(days_seen(calm, (("x", "p", 0), ("w", "q", 0))), ("never", 1))
        self.assertEqual(days_seen(calm, (("w", "p", 0), ("w", "p", 0), ("w", "q", 1))), ("days", (((0, 0),), ((0, 0),), ((1, 1),))))

    def test_the_first_days(self):
        case = Case("kinds p q\nafter p p q\nthing w due 0 1 from 1\nthing x due 0")
        for seen, days in (
            ((("w", "p", 0), ("w", "p", 0)), (((0, 0),), ((0, 0),))),
            ((("w", "p", 0), ("w", "p", 1)), (((0, 0),), ((1, 1),))),
            ((("x", "p", 0), ("w", "p", 1)), (((0, 1),), ((1, 1),))),
            ((("x", "p", 0), ("w", "p", 0)), (((0, 0),), ((0, 0),))),
            ((("x", "p", 0), ("w", "q", 1)), (((0, 0),), ((1, 1),))),
            ((("x", "p", 0), ("w", "q", 2), ("x", "q", 0)), (((0, 1),), ((2, 2),), ((2, 2),))),
        ):
            self.assertTrue(same(days_seen(case, seen), ("days", days)), seen)
        self.assertTrue(same(days_seen(case, (("x", "p", 0), ("w", "q", 0))), ("never", 1)))

    def test_eight_visits(self):
        case = Case("kinds p\nafter p p\nthing w due 0 1 from 1, top 9\nthing x due 0")
        seen = tuple(("w", "p", bill) for bill in (2, 3, 3, 5, 6, 7, 8, 9))
        days = tuple(((bill, bill),) for bill in (2, 3, 3, 5, 6, 7, 8))
        self.assertEqual(days_seen(case, seen), ("days", (*days, ((9, None),))))
        self.assertEqual(days_seen(case, (("x", "p", 0),) * 8), ("days", (((0, None),),) * 8))
        self.assertEqual(days_seen(case, (*seen[:7], ("w", "p", 7))), ("never", 7))
        self.assertEqual(days_seen(case, (*seen[:3], ("w", "p", 10), *seen[4:])), ("never", 3))

    def test_days_far_out(self):
        far = 10 ** 39
        case = Case(f"kinds p\nafter p p\nthing w due {far} {far} from {far}, lost {3 * far} 7\nthing x due 1 5 from 1")
        seen = (("x", "p", 5 * far - 5), ("w", "p", far * 2), ("x", "p", 5 * (2 * far + 4)), ("w", "p", 7))
        days = (far, 2 * far + 1, 2 * far + 5)
        told = (*[((day, day),) for day in days], ((4 * far, None),))
        self.assertTrue(same(days_seen(case, seen), ("days", told)))
        self.assertEqual(days_seen(case, seen[1:2]), ("days", told[1:2]))
        self.assertEqual(days_seen(case, (seen[0], seen[3])), ("days", (((far, far),), ((4 * far, None),))))
        self.assertEqual(days_seen(case, (seen[3], seen[0])), ("never", 1))
        self.assertEqual(asked_next(case, (seen[0],), "w", "p"), (0, far * (2 * far)))
        self.assertEqual(asked_next(case, (seen[0],), "x", "p"), (5 * far - 5, None))

    def test_by_name_and_equal_calls(self):
        case, seen = Case(TEXT), (("a", "plain", 6), ("b", "plain", 15))
        told = days_seen(seen=seen, case=case)
        self.assertTrue(same(told, ("days", (((3, 3),), ((6, 6),)))))
        self.assertTrue(same(told, days_seen(Case(TEXT), seen)))
        self.assertEqual(case, Case(TEXT))


class AskedNextTest(unittest.TestCase):
    def test_against_going_along_the_days(self):
        chance, found = random.Random(142), {}
        for text in (made_cases(80, 142) + edge_cases() + [TEXT]) * 3:
            case, own = Case(text), DayByDay(text)
            seen = made_seen(chance, own)
            if any(bill > 100 for _, _, bill in seen):
                continue
            never = expected(own, seen)[1] if expected(own, seen)[0] == "never" else None
            for thing, kind in itertools.product(case.things, case.kinds):
                with self.subTest(text=text, seen=seen, thing=thing, kind=kind):
                    if never is not None:
                        refused(self, NeverSo, never, asked_next, case, seen, thing, kind)
                        continue
                    told = expected_next(own, seen, thing, kind)
                    word = told[1] is None if told else "cannot"
                    found[word] = found.get(word, 0) + 1
                    if told is None:
                        refused(self, CannotCome, kind, asked_next, case, seen, thing, kind)
                    else:
                        self.assertTrue(same(asked_next(case, seen, thing, kind), told))
        self.assertGreater(min(found[word] for word in (True, False, "cannot")), 30, found)

    def test_on_the_same_day_and_later(self):
        case = Case("kinds p q\nafter p q\nmercy q top 4\nthing w due 2 5 from 1, lost 5 10\nthing x due 3 2 from 1")
        # No other day of kind p can come, but the same visit can.
        self.assertEqual(asked_next(case, (("w", "p", 15),), "x", "p"), (4, 4))
        self.assertEqual(asked_next(case, (("w", "p", 10),), "x", "p"), (2, None))
        self.assertEqual(asked_next(case, (("w", "p", 0),), "x", "p"), (0, 0))
        self.assertEqual(asked_next(case, (("w", "p", 15),), "x", "q"), (4, 4))
        self.assertEqual(asked_next(case, (("w", "p", 0),), "x", "q"), (0, 4))
        refused(self, CannotCome, "p", asked_next, case, (("w", "q", 4),), "x", "p")
        self.assertEqual(asked_next(case, (("x", "q", 2),), "w", "q"), (4, 4))
        # The greatest number of all lies between the days of both stretches.
        case = Case("kinds p\nthing w due 2 5 from 1, lost 5 10\nthing x due 3 2 from 1, top 4, lost 6 1")
        self.assertEqual(asked_next(case, (("w", "p", 10),), "x", "p"), (1, 4))
        self.assertEqual(asked_next(case, (("x", "p", 1),), "w", "p"), (10, 10))
        self.assertEqual(asked_next(case, (("x", "p", 4),), "w", "p"), (10, 20))

    def test_days_that_do_not_fit_what_is_behind_do_not_count(self):
        case = Case("kinds p\nafter p p\nthing w due 3 1 from 1, lost 4 0\nthing x due 5 3 from 1")
        self.assertEqual(asked_next(case, (("w", "p", 2), ("w", "p", 0)), "x", "p"), (6, None))
        self.assertEqual(asked_next(case, (("w", "p", 0),), "x", "p"), (0, None))
        self.assertEqual(asked_next(case, (("x", "p", 3), ("w", "p", 3)), "w", "p"), (0, 3))

    def test_by_name_and_equal_calls(self):
        case, seen = Case(TEXT), (("b", "plain", 15),)
        told = asked_next(kind="plain", thing="b", seen=seen, case=case)
        self.assertTrue(same(told, (12, 20)))
        self.assertTrue(same(told, asked_next(Case(TEXT), seen, "b", "plain")))


class ThingsByThemselvesTest(unittest.TestCase):
    def test_the_same_whatever_else_is_out(self):
        chance = random.Random(143)
        for text in made_cases(64, 143):
            own, lines = DayByDay(text), text.split("\n")
            thing = chance.choice(own.things)
            alone = Case("\n".join(line for line in lines if not line.startswith("thing") or line.split(" ")[1] == thing))
            seen = tuple((thing, kind, bill) for _, kind, bill in made_seen(chance, own))
            self.assertTrue(same(days_seen(alone, seen), days_seen(Case(text), seen)))
            for kind in own.kinds:
                told = []
                for case in (alone, Case(text)):
                    try:
                        told.append(asked_next(case, seen, thing, kind))
                    except (NeverSo, CannotCome) as error:
                        told.append((error.__class__.__name__, error.value))
                self.assertTrue(same(*told))


class WrongTest(unittest.TestCase):
    def refused(self, case, seen):
        refused(self, BadSeen, seen, days_seen, case, seen)
        for thing, kind in (("a", "plain"), ("c", "plain"), ("a", None)):
            refused(self, BadSeen, seen, asked_next, case, seen, thing, kind)

    def test_seen(self):
        case, one = Case(TEXT), ("b", "plain", 15)
        for seen in (
            (), one, [one], (list(one),), (one, list(one)), (one, ()), (one, None), (one[:2],), ((*one, 0),), (one,) * 9, (("c", "plain", 15),), (("b", "other", 15),),
            (("plain", "b", 15),), (("b", "plain", True),), (("b", "plain", False),), (("b", "plain", None),), (("b", "plain", "15"),), (("b", 0, 15),), ((1, "plain", 15),),
            ((("b",), "plain", 15),), (("b", ("plain",), 15),), {one: 1}, "b plain 15", (15, "plain", "b"), (("b", "plain", (15,)),),
        ):
            self.refused(case, seen)

    def test_any_value(self):
        case, one = Case(TEXT), ("b", "plain", 15)
        for value in any_values():
            self.refused(case, value)
            for seen in ((value,), (one, value), (value, one)):
                self.refused(case, seen)
            for at in range(3):
                changed = (*one[:at], value, *one[at + 1:])
                right = isinstance(value, str) and value in ("b", "a", "plain") if at < 2 else value.__class__ is int
                if not right:
                    self.refused(case, (one, changed))
            if value not in ("a", "b"):
                refused(self, NoThing, value, asked_next, case, (one,), value, value)
            if value != "plain":
                refused(self, NoKind, value, asked_next, case, (one,), "a", value)

    def test_which_error_goes_ahead(self):
        case, never = Case("kinds p q\nafter p q\nthing w due 0 1 from 1"), (("w", "p", -1),)
        refused(self, NoThing, "p", asked_next, case, never, "p", "w")
        refused(self, NoKind, "w", asked_next, case, never, "w", "w")
        refused(self, NeverSo, 0, asked_next, case, never, "w", "p")
        refused(self, NeverSo, 1, asked_next, case, (("w", "q", 4), ("w", "p", 5)), "w", "p")
        refused(self, CannotCome, "p", asked_next, case, (("w", "q", 4),), "w", "p")


if __name__ == "__main__":
    unittest.main()
