"""Point 6: cases, what can come behind what, bills, and lines told otherwise."""

import itertools
import unittest

from finestairs.cases import Case
from finestairs.errors import BadCase, NoKind, NoLine, NoThing
from finestairs.stairs import Stairs
from tests.helper import DayByDay, any_values, edge_cases, made_cases, refused

TEXT = (
    "kinds plain mercy\nafter plain plain mercy\nafter mercy plain mercy\nmercy mercy top 4\n"
    "thing a due 0 2 from 1, top 20\nthing b due 3 5 from 1, lost 5 12"
)
DAYS = 40


class CaseTest(unittest.TestCase):
    def test_bills_day_by_day(self):
        for text in made_cases(160, 1) + edge_cases() + [TEXT]:
            case, own = Case(text), DayByDay(text)
            self.assertEqual((case.text, case.kinds, case.things, len(case)), (text, own.kinds, own.things, len(own.things)))
            for thing, kind in itertools.product(case.things, case.kinds):
                bill = case.bill(thing, kind)
                self.assertIsInstance(bill, Stairs)
                row = [own.number(thing, kind, day) for day in range(DAYS)]
                self.assertEqual([bill[day] for day in range(DAYS)], row, (text, thing, kind))

    def test_mercies_and_parts(self):
        fines = (
            "", "3 from 1", "free 2, 3 from 1", "back 2, 3 from 1", "1 from 1, 4 from 3, 0 from 5", "3 from 2, top 7",
            "3 from 1, lost 4 5", "lost 1 9", "back 1, 2 from 1, 5 from 4, top 11, lost 6 30",
        )
        mercies = ("none", "top 0", "top 4", "top 100", "less 0", "less 5", "less 100")
        for asked, mercy, due in itertools.product(fines, mercies, ("due 0", "due 3", "late 0", "late 3")):
            text = f"kinds p q\nmercy q {mercy}\nthing w {due}" + (" " + asked if asked else "")
            case, own = Case(text), DayByDay(text)
            for kind in ("p", "q"):
                self.assertEqual(
                    [case.bill("w", kind)[day] for day in range(20)], [own.number("w", kind, day) for day in range(20)], text,
                )

    def test_each_part_by_hand(self):
        for line, mercy, told in (
            ("due 2 3 from 1", "none", ("0 0 0, 3 3 3", "0 0 0")),
            ("late 2 3 from 1", "top 10", ("0 6 3", "0 6 3, 2 10 0")),
            ("late 0 3 from 1", "less 4", ("0 0 3", "0 0 0, 2 2 3")),
            ("due 0 lost 2 9", "less 10", ("0 0 0, 2 9 0", "0 0 0")),
            ("due 1", "top 3", ("0 0 0", "0 0 0")),
        ):
            case = Case("kinds p q\nmercy q " + mercy + "\nthing w " + line)
            self.assertEqual((case.bill("w", "p").text, case.bill("w", "q").text), told)

    def test_great_numbers(self):
        far, much = 10 ** 20, 10 ** 39
        case = Case(f"kinds p q r\nmercy q top {much}\nmercy r less {much}\nthing w due {far} {much} from {far}\nthing x late {far} 7 from 1")
        self.assertEqual(case.bill("w", "p").pieces, ((0, 0, 0), (2 * far, much, much)))
        self.assertEqual(case.bill("w", "q").pieces, ((0, 0, 0), (2 * far, much, 0)))
        self.assertEqual(case.bill("w", "r").pieces, ((0, 0, 0), (2 * far + 1, much, much)))
        self.assertEqual(case.bill("x", "p").pieces, ((0, 7 * far, 7),))

    def test_after_is_in_the_sequence_of_kinds(self):
        case = Case("kinds r q p\nafter p q r p\nafter q p q r\nafter r p r q\nthing w due 0")
        self.assertEqual([case.after(kind) for kind in ("r", "q", "p")], [("r", "q", "p")] * 3)
        case = Case("kinds r q p\nafter q p r\nthing w due 0")
        self.assertEqual([case.after(kind) for kind in ("r", "q", "p")], [(), ("r", "p"), ()])

    def test_after_day_by_day(self):
        for text in made_cases(80, 2) + edge_cases():
            case, own = Case(text), DayByDay(text)
            for kind in case.kinds:
                self.assertEqual(case.after(kind), tuple(own.after[kind]))

    def test_any_words_are_names(self):
        case = Case(
            "kinds kinds after mercy thing\nafter after mercy\nmercy kinds none\nthing row due 0\nthing kinds due 0\n"
            "thing due due 0\nthing late late 0"
        )
        self.assertEqual(case.kinds, ("kinds", "after", "mercy", "thing"))
        self.assertEqual(case.things, ("row", "kinds", "due", "late"))
        self.assertEqual(Case("kinds abcdefgh\nthing zyxwvuts due 0").things, ("zyxwvuts",))

    def test_lines_after_and_mercy_in_any_sequence_of_kinds(self):
        case = Case("kinds p q\nafter q p\nmercy q none\nmercy p top 0\nthing w late 4 1 from 1")
        self.assertEqual((case.after("q"), case.after("p"), case.bill("w", "q")[9], case.bill("w", "p")[9]), (("p",), (), 0, 0))

    def test_in_len_and_equal(self):
        case = Case(TEXT)
        self.assertIs("a" in case, True)
        self.assertIs("plain" in case, False)
        for value in any_values():
            self.assertIs(value in case, value.__class__ is str and value == "a")
            self.assertIs(case == value, False)
            self.assertIs(value == case, False)
            self.assertIs(case != value, True)
        self.assertIs(case == Case(TEXT), True)
        self.assertIs(case != Case(TEXT), False)
        # The same bills, but another text.
        self.assertIs(Case("kinds p\nthing w due 0") == Case("kinds p\nthing w due 1"), False)
        self.assertEqual([len(Case("kinds p" + "\nthing %s due 0" * many % tuple("abcd"[:many]))) for many in (1, 2, 3, 4)], [1, 2, 3, 4])

    def test_operands_that_are_not_told_of(self):
        case = Case(TEXT)
        for deed in (lambda: case + case, lambda: case < case, lambda: case | 1, lambda: -case, lambda: case[0]):
            self.assertRaises(TypeError, deed)

    def test_told(self):
        case = Case(TEXT)
        other = case.told(4, "mercy mercy none")
        self.assertIsInstance(other, Case)
        self.assertEqual(other.text, TEXT.replace("mercy mercy top 4", "mercy mercy none"))
        self.assertEqual((case.text, other.bill("b", "mercy").text), (TEXT, "0 0 0"))
        self.assertEqual(case.told(number=5, line="thing c late 1"), case.told(5, "thing c late 1"))
        self.assertEqual(case.told(5, "thing c late 1").things, ("c", "b"))
        self.assertEqual(Case("kinds p\nthing w due 0").told(2, "thing x due 0").text, "kinds p\nthing x due 0")

    def test_by_name(self):
        case = Case(text=TEXT)
        self.assertEqual(case, Case(TEXT))
        self.assertEqual(case.after(kind="plain"), case.after("plain"))
        self.assertEqual(case.bill(thing="b", kind="mercy"), case.bill("b", "mercy"))


class WrongTest(unittest.TestCase):
    def wrong(self, text, number):
        with self.subTest(text):
            with self.assertRaises(BadCase) as caught:
                Case(text)
            self.assertIs(caught.exception.value.__class__, int)
            self.assertEqual(caught.exception.value, number)

    def test_no_string(self):
        for value in any_values():
            if value.__class__ is not str:
                self.wrong(value, 0)

    def test_strings(self):
        for value in any_values():
            if value.__class__ is str:
                self.wrong(value, 2 if value == "kinds plain" else 1)

    def test_kinds(self):
        for line in (
            "", "kinds", "kinds ", "kinds p ", " kinds p", "kinds  p", "kinds p  q", "Kinds p", "kinds P", "kinds p1",
            "kinds abcdefghi", "kinds p p", "kinds p q r p", "kinds p q r s t", "kind p", "kinds p, q", "kinds p_q", "thing w due 0",
            "after p p", "mercy p none", "kinds p-q", "kinds\tp", "kinds 1",
        ):
            self.wrong(line + "\nthing w due 0", 1)
        self.wrong("kinds p\nkinds p\nthing w due 0", 2)
        self.wrong("kinds p\nthing w due 0\nkinds q", 3)
        self.wrong("\nkinds p\nthing w due 0", 1)

    def test_after(self):
        for line in (
            "after", "after p", "after p ", "after p t", "after t p", "after p q q", "after p p p", "after p q  r", "after  p q",
            "After p q", "after p q ", "after p Q", "after p,q", "", "after t t", "after p q t", "after p q r s q",
        ):
            self.wrong("kinds p q r s\nafter q q\n" + line + "\nthing w due 0", 3)
        self.wrong("kinds p q\nafter p q\nafter p p\nthing w due 0", 3)
        self.wrong("kinds p q\nafter p q\nafter p q\nthing w due 0", 3)
        self.wrong("kinds p q\nmercy p none\nafter p q\nthing w due 0", 3)
        self.wrong("kinds p q\nthing w due 0\nafter p q", 3)

    def test_mercy(self):
        for line in (
            "mercy", "mercy p", "mercy p none ", "mercy p none 3", "mercy p top", "mercy p top ", "mercy p top 03", "mercy p top -3",
            "mercy p top +3", "mercy p top 3 4", "mercy p less", "mercy p less 1.5", "mercy p less x", "mercy t none", "mercy t top 3",
            "mercy p more 3", "mercy  p none", "mercy p  none", "Mercy p none", "mercy p None", "mercy none", "mercy p 3 top", "",
        ):
            self.wrong("kinds p q\nmercy q none\n" + line + "\nthing w due 0", 3)
        self.wrong("kinds p q\nmercy p none\nmercy p top 3\nthing w due 0", 3)
        self.wrong("kinds p q\nthing w due 0\nmercy p none", 3)

    def test_thing(self):
        for line in (
            "thing", "thing w", "thing w due", "thing w due ", "thing w due 0 ", "thing w due 0  2 from 1", "thing w due 0 2 from 1 ",
            "thing w due 00", "thing w due -1", "thing w due x", "thing w due 0 2 from 0", "thing w due 0, 2 from 1", "thing W due 0",
            "thing w1 due 0", "thing abcdefghi due 0", "thing w Due 0", "thing w at 0", "thing  w due 0", "thing w due 0 lost 3",
            "thing w due 0 2 from 1,3 from 2", "thing w due 0 top 3, 2 from 1", "things w due 0", "thing w  0", "thing v due 0", "",
            "thing w due 0 free", "thing w due 0 none", "thing  due 0",
        ):
            self.wrong("kinds p q\nthing v due 0\n" + line, 3)
            self.wrong("kinds p q\nthing v due 0\n" + line + "\nthing z due 0", 3)
        self.wrong("kinds p" + "".join("\nthing " + name + " due 0" for name in "vwxyz"), 6)
        self.wrong("kinds p\nthing v late 0\nthing v due 3 2 from 1", 3)

    def test_line_feeds(self):
        self.wrong("kinds p\nthing w due 0\n", 3)
        self.wrong("kinds p\n\nthing w due 0", 2)
        self.wrong("kinds p\nthing w due 0 2 from 1,\n3 from 2", 2)

    def test_what_comes_behind_what_comes_behind(self):
        self.wrong("kinds p q r\nafter p q\nafter q r\nthing w due 0", 2)
        self.wrong("kinds p q r\nafter q r\nafter p q\nthing w due 0", 3)
        self.wrong("kinds p q\nafter p q\nafter q p\nthing w due 0", 2)
        self.wrong("kinds p q\nafter p p q\nafter q p\nthing w due 0", 3)
        self.wrong("kinds p q r s\nafter s s\nafter p q r\nafter q r s\nafter r s\nthing w due 0", 3)
        Case("kinds p q r\nafter p q r\nafter q r\nthing w due 0")
        Case("kinds p q\nafter p q\nthing w due 0")

    def test_which_goes_ahead(self):
        # A line that cannot stand there goes ahead of a kind that is lacking, and this one of things.
        self.wrong("kinds p q r\nafter p q\nafter q r\nthing w due 0\nthing w due 0", 5)
        self.wrong("kinds p q r\nafter p q\nafter q r", 2)
        self.wrong("kinds p q r\nafter p q\nafter q r\nmercy p none", 2)
        self.wrong("kinds p q r\nafter p q\nafter q r\nmercy p", 4)
        self.wrong("kinds p", 2)
        self.wrong("kinds p q\nafter p q\nmercy p none", 4)
        self.wrong("kinds p q\nafter p t\nafter t p\nthing", 2)

    def test_all_that_lack(self):
        """Of all lines after for three kinds, just those are let that tell all that comes behind."""
        kinds = ("p", "q", "r")
        rows = [row for many in range(4) for row in itertools.combinations(kinds, many)]
        for told in itertools.product(rows, repeat=3):
            after = dict(zip(kinds, told))
            lines = [kind for kind in kinds if after[kind]]
            text = "\n".join(["kinds p q r", *[" ".join(["after", kind, *after[kind]]) for kind in lines], "thing w due 0"])
            lacking = [
                at + 2 for at, kind in enumerate(lines)
                if any(far not in after[kind] for other in after[kind] for far in after[other])
            ]
            if lacking:
                self.wrong(text, lacking[0])
            else:
                self.assertEqual([Case(text).after(kind) for kind in kinds], list(told))

    def test_told(self):
        case = Case(TEXT)
        for value in any_values() + [7, -3]:
            if not (value.__class__ is int and 1 <= value <= 6):
                refused(self, NoLine, value, case.told, value, "kinds plain mercy")
                refused(self, NoLine, value, case.told, value, None)
        for number in range(1, 7):
            for value in [*any_values(), "kinds plain mercy\n", "thing c due 0\nthing d due 0", "\n"]:
                if value.__class__ is not str or "\n" in value:
                    refused(self, BadCase, number, case.told, number, value)
        for number, line, bad in (
            (1, "kinds plain", 2), (1, "kinds plain mercy p", None), (1, "kinds mercy plain", None), (2, "after plain mercy", 2),
            (2, "kinds plain", 2), (4, "mercy p none", 4), (5, "thing b due 0", 6), (6, "thing a due 0", 6), (6, "", 6),
            (3, "mercy plain none", None), (4, "thing c due 0", None), (5, "mercy plain none", None), (2, "", 2), (6, "after plain plain", 6),
        ):
            with self.subTest(number=number, line=line):
                if bad is None:
                    self.assertEqual(case.told(number, line).text.split("\n")[number - 1], line)
                else:
                    refused(self, BadCase, bad, case.told, number, line)
        with self.assertRaises(BadCase) as caught:
            Case("kinds p\nthing w due 0").told(2, "after p p")
        self.assertEqual(caught.exception.value, 3)

    def test_kinds_and_things(self):
        case = Case(TEXT)
        for value in any_values():
            if not (value.__class__ is str and value in case.kinds):
                refused(self, NoKind, value, case.after, value)
                refused(self, NoKind, value, case.bill, "a", value)
            if not (value.__class__ is str and value in case.things):
                refused(self, NoThing, value, case.bill, value, "plain")
                refused(self, NoThing, value, case.bill, value, value)


if __name__ == "__main__":
    unittest.main()
