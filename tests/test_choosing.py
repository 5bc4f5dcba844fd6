"""Point 13: the cheapest lines."""

import itertools
import random
import unittest

from finestairs.cases import Case
from finestairs.choosing import cheapest
from finestairs.errors import BadOffers, BadWishes, FineError
from finestairs.habits import loss
from finestairs.later import later
from tests.helper import DayByDay, any_values, changed_lines, edge_cases, habits_of, made_cases, refused, same

TEXT = (
    "kinds plain mercy\nafter plain plain mercy\nafter mercy plain mercy\nmercy mercy top 4\n"
    "thing a due 0 2 from 1, top 20\nthing b due 3 5 from 1, lost 5 12"
)
DAYS = 30
WISHES = (("later", "b", 10),)


def picks_of(offers):
    """All picks, in sequence, found by going through all that can be left out."""
    found = []
    for chosen in itertools.product((False, True), repeat=len(offers)):
        pick = tuple(offer for offer, taken in zip(offers, chosen) if taken)
        if len({number for number, _, _ in pick}) == len(pick):
            found.append((sum(price for _, _, price in pick), len(pick), pick))
    return sorted(found)


def case_with(case, pick):
    """The case that comes with the lines of a pick; None if it does not count."""
    lines = dict(enumerate(case.text.split("\n"), start=1))
    lines.update({number: line for number, line, _ in pick})
    try:
        other = Case("\n".join(lines[number] for number in sorted(lines)))
    except FineError:
        return None
    return other if (other.kinds, other.things) == (case.kinds, case.things) else None


def holds(case, wish):
    """Whether a wish holds, that of a row day by day."""
    if wish[0] == "row":
        own = DayByDay(case.text)
        return all(own.can_go_ahead(one, other, DAYS) for one, other in itertools.combinations(wish[1], 2))
    told = (later if wish[0] == "later" else loss)(case, wish[1])
    return told[0] == "never" or (told[0] != "endless" and told[1] <= wish[2])


def expected(case, offers, wishes):
    """What is to be told, found by trying all picks."""
    reasons = []
    for price, _, pick in picks_of(offers):
        other = case_with(case, pick)
        if other is not None:
            broken = [number for number, wish in enumerate(wishes) if not holds(other, wish)]
            if not broken:
                return ("pick", price, pick, tuple(reasons))
            reasons.append((pick, broken[0]))
    return ("none", tuple(reasons))


def made_offers(chance, text):
    """Offers for the lines of a case by chance, some of which make none or another one."""
    offers = set()
    many = chance.randint(1, 4)
    lines = text.split("\n")
    while len(offers) < many:
        number = chance.choice([chance.randint(1, len(lines)), len(lines)])
        line = changed_lines(chance, text).split("\n")[number - 1]
        if chance.random() < 0.2:
            line = chance.choice(["", "nothing", "kinds p", "after p", "thing other due 0", line + " ", lines[0], lines[-1]])
        offers.add((number, line, chance.randint(1, 9 if chance.random() < 0.5 else 2)))
    return tuple(sorted(offers))


def made_wishes(chance, case):
    """Wishes by chance."""
    return tuple(chance.choice((
        ("later", chance.choice(case.things), chance.choice((0, 1, 3, 8))),
        ("row", tuple(chance.sample(case.things, len(case)))),
        ("loss", chance.choice(habits_of(case)), chance.choice((0, 2, 6))),
    )) for _ in range(chance.randint(1, 3)))


class CheapestTest(unittest.TestCase):
    def test_against_all_picks(self):
        chance, found = random.Random(131), {}
        for text in (made_cases(64, 131) + edge_cases() + [TEXT]) * 6:
            case = Case(text)
            if len(case) > 3:
                continue
            offers, wishes = made_offers(chance, text), made_wishes(chance, case)
            with self.subTest(text=text, offers=offers, wishes=wishes):
                told = cheapest(case, offers, wishes)
                self.assertTrue(same(told, expected(case, offers, wishes)))
                word = (told[0], told[0] == "pick" and bool(told[2]))
                found[word] = found.get(word, 0) + 1
        self.assertEqual(len(found), 3)
        self.assertGreater(min(found.values()), 10, found)

    def test_no_line_is_called_for(self):
        case = Case(TEXT)
        offers = ((4, "mercy mercy top 10", 1),)
        self.assertEqual(cheapest(case, offers, (("later", "b", 16),)), ("pick", 0, (), ()))
        self.assertEqual(cheapest(case, offers, (("later", "b", 15),)), ("pick", 1, offers, (((), 0),)))

    def test_none(self):
        case = Case(TEXT)
        offers = ((4, "mercy mercy top 10", 1), (5, "thing a due 1 2 from 1, top 20", 1))
        reasons = tuple((pick, 0) for pick in ((), offers[:1], offers[1:], offers))
        self.assertEqual(cheapest(case, offers, (("later", "b", 9),)), ("none", reasons))
        reasons = (((), 1), (offers[:1], 0), (offers[1:], 1), (offers, 0))
        wishes = (("loss", "row b a", 15), ("later", "b", 10))
        told = cheapest(case, offers, wishes)
        self.assertEqual(told, expected(case, offers, wishes))

    def test_sequence_by_price_then_how_many_then_as_tuples(self):
        case = Case(TEXT)
        offers = (
            (2, "after plain mercy", 1), (2, "after plain plain", 2), (4, "mercy mercy top 3", 2), (5, "thing a due 3 2 from 1, top 20", 1),
        )
        told = cheapest(case, offers, (("later", "b", 0),))
        self.assertEqual(told[0], "none")
        self.assertEqual([pick for pick, _ in told[1]], [
            (), offers[3:], offers[1:2], offers[2:3], offers[1:2] + offers[3:], offers[2:], offers[1:3], offers[1:],
        ])
        offers = tuple((number, line, 1) for number, line in (
            (4, "mercy mercy top 2"), (4, "mercy mercy top 3"), (5, "thing a due 1"), (6, "thing b due 4 5 from 1, lost 5 12"),
        ))
        told = cheapest(case, offers, (("later", "b", 0),))
        self.assertEqual([pick for pick, _ in told[1]], [pick for _, _, pick in picks_of(offers)])
        self.assertEqual([len(pick) for pick, _ in told[1]], [0, 1, 1, 1, 1, 2, 2, 2, 2, 2, 3, 3])

    def test_lines_that_make_no_case_or_another_one(self):
        case = Case(TEXT)
        for number, line in (
            (1, "kinds plain"), (1, "kinds mercy plain"), (1, "kinds plain mercy more"), (1, "nothing"), (2, ""), (2, "after plain"), (4, "mercy plain"),
            (5, "thing c due 0 2 from 1, top 20"), (5, "thing b due 0"), (6, "thing a due 0"), (3, "after mercy other"), (6, "thing b due 3 "),
        ):
            self.assertEqual(cheapest(case, ((number, line, 1),), (("later", "b", 0),)), ("none", (((), 0),)), line)
        # One row of things is not another one.
        offers = ((5, "thing b due 3 5 from 1, lost 5 12", 1), (6, "thing a due 0 2 from 1, top 20", 1))
        self.assertEqual(cheapest(case, offers, (("later", "b", 0),)), ("none", (((), 0),)))

    def test_lines_that_make_a_case_only_together(self):
        # What can come behind q must be told behind p, too, if q can, and the other way round.
        case = Case("kinds p q r\nafter p p r\nafter q q r\nthing w due 0 2 from 1, lost 3 1")
        offers = ((2, "after p p q", 1), (3, "after q p q", 1))
        self.assertEqual(cheapest(case, offers, (("later", "w", 0),)), ("none", (((), 0), (offers, 0))))
        # Here it is the other way round: both together make none.
        case = Case("kinds p q\nafter p p\nafter q q\nthing w due 0 2 from 1, lost 3 1")
        offers = ((2, "after p q", 1), (3, "after q p", 1))
        self.assertEqual(cheapest(case, offers, (("later", "w", 0),)), ("none", (((), 0), (offers[:1], 0), (offers[1:], 0))))

    def test_one_number_in_several_offers(self):
        case = Case(TEXT)
        offers = ((4, "mercy mercy top 10", 3), (4, "mercy mercy top 4", 1), (4, "mercy mercy top 9", 1), (6, "thing b due 3 5 from 1, lost 5 20", 2))
        for limit in (0, 5, 9, 10, 11, 15, 16):
            told = cheapest(case, offers, (("later", "b", limit),))
            self.assertTrue(same(told, expected(case, offers, (("later", "b", limit),))))
            for pick, _ in told[-1]:
                self.assertEqual(len({number for number, _, _ in pick}), len(pick))

    def test_wishes_that_hold_only_together(self):
        case = Case(TEXT)
        offers = ((4, "mercy mercy top 20", 1), (6, "thing b due 3 5 from 1, lost 5 20", 1))
        one, other = ("later", "a", 0), ("later", "b", 0)
        self.assertEqual(cheapest(case, offers, (one,))[2], offers[:1])
        self.assertEqual(cheapest(case, offers, (other,))[2], offers)
        told = cheapest(case, offers, (one, other))
        self.assertEqual(told, ("pick", 2, offers, (((), 0), (offers[:1], 1), (offers[1:], 0))))
        self.assertEqual(cheapest(case, offers, (other, one, one))[3], (((), 0), (offers[:1], 0), (offers[1:], 0)))

    def test_each_wish(self):
        case = Case("kinds p\nafter p p\nthing a due 0 1 from 1\nthing b due 0 2 from 1\nthing c late 1 3 from 1")
        offers = ((3, "thing a due 0 4 from 1", 5),)
        self.assertEqual(cheapest(case, offers, (("row", ("c", "b", "a")),)), ("pick", 0, (), ()))
        self.assertEqual(cheapest(case, offers, (("row", ("a", "c", "b")),)), ("pick", 5, offers, (((), 0),)))
        self.assertEqual(cheapest(case, offers, (("row", ("c", "a", "b")),)), ("none", (((), 0), (offers, 0))))
        self.assertEqual(cheapest(case, offers, (("loss", "row c b a", 0),)), ("pick", 0, (), ()))
        self.assertEqual(cheapest(case, offers, (("loss", "row a c b", 10 ** 39),)), ("pick", 5, offers, (((), 0),)))
        self.assertEqual(cheapest(case, offers, (("later", "a", 0),)), ("pick", 0, (), ()))
        # Endless is more than any number.
        free = Case("kinds p q\nafter p p q\nafter q p q\nmercy q none\nthing a due 0 1 from 1")
        offers = ((4, "mercy q less 7", 1), (5, "thing a due 0 1 from 1, top 12", 2))
        self.assertEqual(cheapest(free, offers[1:], (("later", "a", 10 ** 39),)), ("pick", 2, offers[1:], (((), 0),)))
        self.assertEqual(cheapest(free, offers, (("later", "a", 7),)), ("pick", 1, offers[:1], (((), 0),)))

    def test_by_name_and_equal_calls(self):
        offers = ((4, "mercy mercy top 10", 1), (6, "thing b due 3 5 from 1, lost 5 20", 2))
        case = Case(TEXT)
        told = cheapest(wishes=WISHES, offers=offers, case=case)
        self.assertTrue(same(told, ("pick", 1, offers[:1], (((), 0),))))
        self.assertTrue(same(told, cheapest(Case(TEXT), offers, WISHES)))
        self.assertEqual(case, Case(TEXT))


class WrongTest(unittest.TestCase):
    def test_offers(self):
        case, one, other = Case(TEXT), (4, "mercy mercy top 10", 1), (6, "thing b due 3", 2)
        for offers in (
            (), (other, one), (one, one), [one, other], [one], one, (list(one),), (one, list(other)), (one[:2],), ((*one, 0),), ((0, *one[1:]),),
            ((7, *one[1:]),), ((-1, *one[1:]),), ((True, "kinds plain mercy", 1),), ((4, "a\nb", 1),), ((4, "\n", 1),), ((4, None, 1),), ((4, ("mercy",), 1),),
            ((4, "mercy mercy none", 0),), ((4, "mercy mercy none", 10),), ((4, "mercy mercy none", True),), ((4, "mercy mercy none", "1"),),
            (("4", "mercy mercy none", 1),), ((4, "mercy mercy none", 1), (4, "mercy mercy none", 1)), (one, other, None), (one, other, ()),
            tuple((4, "mercy mercy none", price) for price in (1, 2, 3, 4, 5)), ((4, "x", 2), (4, "x", 1)), ((4, "y", 1), (4, "x", 1)), ((5, "x", 1), (4, "x", 1)),
        ):
            refused(self, BadOffers, offers, cheapest, case, offers, WISHES)
            refused(self, BadOffers, offers, cheapest, case, offers, ())
        for offers in (((4, "", 9),), tuple((4, "mercy mercy none", price) for price in (1, 2, 3, 4)), ((1, "x", 1), (6, "x", 1))):
            self.assertIn(cheapest(case, offers, WISHES)[0], ("pick", "none"))

    def test_wishes(self):
        case, offers = Case(TEXT), ((4, "mercy mercy top 10", 1),)
        for wish in (
            ("later", "c", 1), ("later", "b"), ("later", "b", 1, 1), ("later", "b", -1), ("later", "b", True), ("later", "b", "1"), ("later", ("b",), 1), ("later", 1, "b"),
            ("row", ("a",)), ("row", ("a", "b", "a")), ("row", ["a", "b"]), ("row", "a", "b"), ("row", ("a", "b"), 1), ("row", "row a b"), ("row",), ("row", ("a", "c")),
            ("loss", "dear", 1), ("loss", "row a", 1), ("loss", "dearest"), ("loss", "dearest", -1), ("loss", "dearest", False), ("loss", None, 1), ("loss", "dearest", 1, 1),
            ("Later", "b", 1), ("saves", "b", 1), ["later", "b", 1], (), "later", None, 0,
        ):
            for wishes in ((wish,), (*WISHES, wish), (wish, *WISHES)):
                refused(self, BadWishes, wishes, cheapest, case, offers, wishes)
        for wishes in ((), list(WISHES), WISHES[0], WISHES * 4, {"later": 1}):
            refused(self, BadWishes, wishes, cheapest, case, offers, wishes)
        for wishes in (WISHES * 3, (("later", "b", 10 ** 39),), (("row", ("b", "a")),), (("loss", "steepest 3", 0),)):
            self.assertIn(cheapest(case, offers, wishes)[0], ("pick", "none"))

    def test_any_value(self):
        case, offers = Case(TEXT), ((4, "mercy mercy top 10", 1),)
        for value in any_values():
            refused(self, BadOffers, value, cheapest, case, value, WISHES)
            refused(self, BadWishes, value, cheapest, case, offers, value)
            for many in ((value,), (value, *offers), (*offers, value)):
                refused(self, BadOffers, many, cheapest, case, many, value)
            for many in ((value,), (value, *WISHES), (*WISHES, value)):
                refused(self, BadWishes, many, cheapest, case, offers, many)
            if not (value.__class__ is int and value in (1, 2)):
                refused(self, BadOffers, (changed := ((4, "x", value),)), cheapest, case, changed, WISHES)
            if not (value.__class__ is int and value in (1, 2)):
                refused(self, BadOffers, (changed := ((value, "x", 1),)), cheapest, case, changed, WISHES)
            if not (isinstance(value, str) and "\n" not in value):
                refused(self, BadOffers, (changed := ((4, value, 1),)), cheapest, case, changed, WISHES)
            if value not in ("a", "b"):
                refused(self, BadWishes, (changed := (("later", value, 1),)), cheapest, case, offers, changed)
            if not (value.__class__ is int and value >= 0):
                refused(self, BadWishes, (changed := (("later", "b", value),)), cheapest, case, offers, changed)
                refused(self, BadWishes, (changed := (("loss", "dearest", value),)), cheapest, case, offers, changed)
            if not (isinstance(value, tuple) and same(tuple(sorted(map(str, value))), ("a", "b"))):
                refused(self, BadWishes, (changed := (("row", value),)), cheapest, case, offers, changed)
            if value not in ("dearest", "row a b", "steepest 3"):
                refused(self, BadWishes, (changed := (("loss", value, 1),)), cheapest, case, offers, changed)


if __name__ == "__main__":
    unittest.main()
