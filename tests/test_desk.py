"""Point 16: a desk beside a counter."""

import random
import unittest

from finestairs.cases import Case
from finestairs.counters import Counter, read_counter
from finestairs.desk import Desk
from finestairs.errors import (
    BadCase, BadHabit, BadSay, BadVisit, Empty, FineError, NoKind, NoLine, NotCome, NothingToRedo, NothingToUndo, NoThing, NotOut,
)
from finestairs.habits import loss
from finestairs.later import later
from finestairs.ranks import ranked
from tests.helper import any_values, edge_cases, habits_of, made_cases, refused, same
from tests.test_counters import made_deed
from tests.test_trials import told

TEXT = (
    "kinds plain mercy\nafter plain plain mercy\nafter mercy plain mercy\nmercy mercy top 4\n"
    "thing a due 0 2 from 1, top 20\nthing b due 3 5 from 1, lost 5 12"
)
STEPS = "kinds day\nafter day day\nthing a due 0 1 from 1\nthing b due 0 2 from 1\nthing c late 1 3 from 1"


def outcome(deed, *arguments):
    """What a call returns, or its error and the value of it."""
    try:
        return deed(*arguments)
    except FineError as error:
        return error.__class__, error.value


def answer(told):
    """A number that is told, or the word that tells of none."""
    return str(told[1]) if told[0] in ("saves", "most") else told[0]


class DeskTest(unittest.TestCase):
    def test_beside_a_counter(self):
        chance, found = random.Random(171), {}
        for text in made_cases(64, 171) + edge_cases() + [TEXT] * 4:
            desk, counter = Desk(text), Counter(Case(text))
            for _ in range(30):
                name, *arguments = made_deed(chance, counter.case.text)
                line = " ".join([{"bring_by": "by"}.get(name, name), *map(str, arguments)])
                expected = outcome(getattr(counter, name), *arguments)
                told_of = outcome(desk.say, line)
                self.assertTrue(same(told_of, "done" if expected is None else expected), (line, told_of, expected))
                found[name, isinstance(expected, tuple)] = True
                self.assertTrue(desk.counter == counter)
                self.assertEqual(told(desk.counter), told(counter))
                self.asked(desk, counter)
        self.assertEqual(len(found), 12)

    def asked(self, desk, counter):
        """That what is asked is answered as the counter tells, and changes nothing."""
        ahead, case = told(counter), counter.case
        visit = "none" if counter.visit is None else "%d %s" % counter.visit
        self.assertEqual([desk.say("paid"), desk.say("out"), desk.say("visit")], [str(counter.paid), " ".join(counter.out), visit])
        for thing in case.things[:2]:
            self.assertEqual(desk.say("later " + thing), answer(later(case, thing)))
            self.assertEqual(desk.say(f"bill {thing} {case.kinds[-1]}"), case.bill(thing, case.kinds[-1]).text)
        self.assertEqual(told(desk.counter), ahead)

    def test_what_is_asked_of_all_calendars(self):
        words = {}
        for text in made_cases(64, 172) + edge_cases() + [TEXT, STEPS]:
            case, desk = Case(text), Desk(text)
            best = ranked(case)
            self.assertEqual(desk.say("ranked"), " ".join(best[1]) if best[0] == "row" else "none")
            words["ranked", best[0]] = True
            for habit in habits_of(case)[::3]:
                self.assertEqual(desk.say("loss " + habit), answer(loss(case, habit)))
                words["loss", loss(case, habit)[0]] = True
            for thing in case.things:
                self.assertEqual(desk.say("later " + thing), answer(later(case, thing)))
                words["later", later(case, thing)[0]] = True
                for kind in case.kinds:
                    self.assertEqual(desk.say(f"bill {thing} {kind}"), case.bill(thing, kind).text)
        self.assertEqual(len(words), 7)

    def test_each_line(self):
        desk = Desk(TEXT)
        for line, told_of in (
            ("visit", "none"), ("paid", "0"), ("out", "a b"), ("come 5 plain", "done"), ("visit", "5 plain"), ("by dearest", "a"), ("paid", "10"), ("out", "b"),
            ("bill b plain", "0 0 0, 4 5 5, 8 12 0"), ("bill a mercy", "0 0 2, 3 4 0"), ("later b", "16"), ("change 4 mercy mercy none", "done"), ("later b", "20"),
            ("undo", "done"), ("later b", "16"), ("redo", "done"), ("bill b mercy", "0 0 0"), ("bring b", "done"), ("out", ""), ("paid", "20"),
            ("ranked", "none"), ("loss row a b", "12"), ("change 5 thing a due 0", "done"), ("later a", "never"), ("paid", "20"),
        ):
            self.assertEqual(desk.say(line), told_of, line)
        self.assertEqual(desk.counter.journal, ("come 5 plain", "bring a", "change 4 mercy mercy none", "bring b", "change 5 thing a due 0"))
        self.assertTrue(desk.counter == read_counter(Case(TEXT), desk.counter.journal))
        desk = Desk(STEPS)
        self.assertEqual([desk.say(line) for line in ("ranked", "loss row c b a", "loss row a b c", "by steepest 3")[:3]], ["c b a", "0", "endless"])
        self.assertEqual(Desk("kinds p q\nafter p q\nmercy q none\nthing w due 0 2 from 1").say("later w"), "endless")

    def test_the_case_of_now(self):
        desk = Desk(TEXT)
        desk.say("change 6 thing b due 3 5 from 1, lost 5 30")
        case = Case(TEXT).told(6, "thing b due 3 5 from 1, lost 5 30")
        for line, expected in (
            ("later b", answer(later(case, "b"))), ("bill b plain", case.bill("b", "plain").text), ("loss row a b", answer(loss(case, "row a b"))),
        ):
            self.assertEqual(desk.say(line), expected)
            self.assertNotEqual(desk.say(line), Desk(TEXT).say(line))
        desk.say("change 6 thing b due 0 2 from 1, top 20")
        self.assertEqual((desk.say("ranked"), Desk(TEXT).say("ranked")), (" ".join(ranked(desk.counter.case)[1]), "none"))

    def test_days_far_out(self):
        far = 10 ** 39
        desk = Desk(f"kinds p q\nafter p q\nmercy q none\nthing w due {far} {far} from 1, top {far * far}")
        self.assertEqual([desk.say(f"come {2 * far} p"), desk.say("visit"), desk.say("bring w"), desk.say("paid")], ["done", f"{2 * far} p", "done", str(far * far)])
        self.assertEqual(desk.say("later w"), str(far * far))
        long = "1" + "0" * 5000
        self.assertEqual([desk.say("undo"), desk.say("undo"), desk.say(f"come {long} p"), desk.say("visit")], ["done", "done", "done", f"{long} p"])

    def test_names_that_are_words_of_lines(self):
        desk = Desk("kinds out paid\nafter out out\nthing undo due 0 2 from 1\nthing row late 1 1 from 1")
        self.assertEqual(
            [desk.say(line) for line in ("come 3 out", "by row undo row", "out", "bring row", "later undo", "bill row paid", "visit", "paid", "undo", "out")],
            ["done", "undo", "row", "done", "never", "0 1 1", "3 out", "10", "done", "row"],
        )

    def test_by_name(self):
        desk = Desk(text=TEXT)
        self.assertEqual(desk.say(line="out"), "a b")
        self.assertTrue(desk.counter == Counter(Case(TEXT)))
        self.assertIs(desk.counter, desk.counter)
        desk.counter.come(3, "plain")
        self.assertEqual(desk.say("visit"), "3 plain")


class WrongTest(unittest.TestCase):
    def test_any_value_as_text(self):
        for value in any_values():
            if not (isinstance(value, str) and "\n" in value):
                with self.assertRaises(BadCase) as caught:
                    Desk(value)
                self.assertEqual(caught.exception.value, 1 if isinstance(value, str) and value != "kinds plain" else 2 if isinstance(value, str) else 0)
        refused(self, BadCase, 2, Desk, "kinds plain\nnothing")

    def test_any_value_as_line(self):
        desk = Desk(TEXT)
        for value in any_values():
            refused(self, BadSay, value, desk.say, value)
        self.assertTrue(desk.counter == Counter(Case(TEXT)))

    def test_lines_without_form(self):
        desk = Desk(TEXT)
        desk.say("come 3 plain")
        ahead = told(desk.counter)
        for line in (
            "", " ", "  ", "nothing", "Come 4 plain", "come", "come 4", "come plain 4", "come 04 plain", "come +4 plain", "come -0 plain", "come 4.0 plain", "come 4 plain plain",
            "come  4 plain", "come 4  plain", "come 4 plain ", " come 4 plain", "come 4 plain\n", "\ncome 4 plain", "come 4\nplain", "bring", "bring a b", "bring a ", "bring  a",
            "change", "change 4", "change 4 ", "change x mercy mercy none", "change 04 mercy mercy none", "change 4  mercy mercy none", "change 4 mercy  mercy none", "change 4 mercy mercy none ",
            "undo ", "undo 1", "undo undo", "redo a", "by", "by ", "by  dearest", "by dearest ", "by row a  b", "paid a", "out a", "visit 3", "visit plain", "bill", "bill a", "bill a plain 3",
            "bill  a plain", "bill a  plain", "later", "later a b", "later ", "ranked a", "ranked ", "loss", "loss ", "loss dearest ", "loss row  a b", "PAID", "paid\n", "journal", "done", "keep",
            "copy", "first", "case", "trial", "come 4 plain\nbring a", "bring_by dearest", "loss\ndearest",
        ):
            refused(self, BadSay, line, desk.say, line)
            self.assertTrue(same(told(desk.counter), ahead))

    def test_errors_pass_on(self):
        desk = Desk(TEXT)
        for line, error, value in (
            ("undo", NothingToUndo, None), ("redo", NothingToRedo, None), ("bring a", NotCome, None), ("by dearest", NotCome, None), ("by row a", BadHabit, "row a"),
            ("come -3 plain", BadVisit, (-3, "plain")), ("come 3 other", BadVisit, (3, "other")), ("bring c", NotOut, "c"), ("change 7 x", NoLine, 7), ("change -1 x", NoLine, -1),
            ("change 4 nothing", BadCase, 4), ("change 4 mercy plain", BadCase, 4), ("change 1 kinds mercy plain", BadCase, 1), ("bill c plain", NoThing, "c"), ("bill c other", NoThing, "c"),
            ("bill a other", NoKind, "other"), ("bill plain a", NoThing, "plain"), ("later c", NoThing, "c"), ("later 0", NoThing, "0"), ("loss row a", BadHabit, "row a"),
            ("loss nothing", BadHabit, "nothing"), ("loss dearest dearest", BadHabit, "dearest dearest"), ("by steepest 0", BadHabit, "steepest 0"), ("loss row a b c", BadHabit, "row a b c"),
        ):
            self.assertTrue(same(outcome(desk.say, line), (error, value)), line)
            self.assertTrue(desk.counter == Counter(Case(TEXT)))
        for line in ("come 3 plain", "by dearest", "by dearest"):
            desk.say(line)
        self.assertEqual(outcome(desk.say, "by dearest"), (Empty, None))
        self.assertEqual(outcome(desk.say, "come 2 plain"), (BadVisit, (2, "plain")))
        self.assertEqual(outcome(desk.say, "come 3 mercy"), (BadVisit, (3, "mercy")))


if __name__ == "__main__":
    unittest.main()
