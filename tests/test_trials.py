"""Point 15: blocks in which a counter is tried, kept or not."""

import unittest

from finestairs.cases import Case
from finestairs.counters import Counter
from finestairs.errors import BadVisit, FineError, NoTrial, NotOut
from tests.helper import any_values, refused, same

TEXT = (
    "kinds plain mercy\nafter plain plain mercy\nafter mercy plain mercy\nmercy mercy top 4\n"
    "thing a due 0 2 from 1, top 20\nthing b due 3 5 from 1, lost 5 12"
)


def begun():
    """A counter with a deed that stands and one that was taken back."""
    counter = Counter(Case(TEXT))
    counter.come(3, "plain")
    counter.bring("a")
    counter.undo()
    return counter


def told(counter):
    """All that a counter tells, also of what can be undone and done again."""
    other = counter.copy()
    rows = []
    while other.done:
        other.undo()
    while True:
        rows.append((other.case.text, other.visit, other.out, other.paid, other.journal))
        try:
            other.redo()
        except FineError:
            return counter.done, tuple(rows)


class TrialTest(unittest.TestCase):
    def left(self, counter, ahead, error=None):
        """That all is as it was ahead, and outside of all blocks."""
        self.assertTrue(same(told(counter), ahead))
        refused(self, NoTrial, None, counter.keep)

    def test_the_counter_itself_is_held(self):
        counter = begun()
        with counter.trial() as held:
            self.assertIs(held, counter)
        self.assertIs(counter.tried(lambda held: held), counter)

    def test_not_kept(self):
        counter, ahead = begun(), told(begun())
        with counter.trial():
            counter.bring("b")
            counter.come(5, "mercy")
            counter.change(4, "mercy mercy none")
            self.assertEqual((counter.out, counter.done), (("a",), 4))
        self.left(counter, ahead)
        with counter.trial():
            pass
        self.left(counter, ahead)
        counter.redo()
        self.assertEqual(counter.out, ("b",))

    def test_undo_goes_on_to_what_was_done_ahead(self):
        counter, ahead = begun(), told(begun())
        with counter.trial():
            counter.redo()
            self.assertEqual(counter.journal, ("come 3 plain", "bring a"))
            counter.undo()
            counter.undo()
            self.assertEqual((counter.journal, counter.visit), ((), None))
            counter.come(9, "mercy")
        self.left(counter, ahead)
        with counter.trial():
            counter.undo()
            counter.keep()
        self.assertEqual((counter.done, counter.visit), (0, None))
        counter.redo()
        counter.redo()
        self.assertEqual(counter.journal, ("come 3 plain", "bring a"))

    def test_kept(self):
        counter = begun()
        with counter.trial() as held:
            self.assertIsNone(held.keep())
            held.bring("b")
            held.keep()
            held.come(4, "mercy")
        refused(self, NoTrial, None, counter.keep)
        self.assertEqual(counter.journal, ("come 3 plain", "bring b", "come 4 mercy"))
        counter.undo()
        counter.undo()
        counter.undo()
        self.assertEqual(counter.done, 0)

    def test_left_by_an_error_is_never_kept(self):
        for error in (FineError, BadVisit, NotOut, ValueError, KeyError, KeyboardInterrupt):
            counter, ahead = begun(), told(begun())
            with self.assertRaises(error) as caught:
                with counter.trial():
                    counter.bring("a")
                    counter.keep()
                    raise error(7)
            self.assertIs(caught.exception.__class__, error)
            self.left(counter, ahead)
            with self.assertRaises(error):
                counter.tried(self.raising(error), keep=True)
            self.left(counter, ahead)

    def raising(self, error):
        def look(held):
            held.bring("b")
            held.keep()
            raise error(7)
        return look

    def test_an_error_that_is_caught_within_leaves_nothing_else(self):
        counter = begun()
        with counter.trial():
            refused(self, NotOut, "c", counter.bring, "c")
            counter.bring("a")
            counter.keep()
        self.assertEqual(counter.journal, ("come 3 plain", "bring a"))

    def test_blocks_in_one_another(self):
        for outer in (False, True):
            for inner in (False, True):
                counter, ahead = begun(), told(begun())
                with counter.trial():
                    counter.bring("a")
                    with counter.trial():
                        counter.come(5, "plain")
                        if inner:
                            counter.keep()
                    self.assertEqual(counter.done, 3 if inner else 2)
                    counter.bring("b")
                    if outer:
                        counter.keep()
                if outer:
                    self.assertEqual(counter.journal, ("come 3 plain", "bring a", *["come 5 plain"][:inner], "bring b"))
                else:
                    self.left(counter, ahead)
                refused(self, NoTrial, None, counter.keep)

    def test_keep_ahead_of_an_inner_block_is_of_the_outer_one(self):
        counter = begun()
        with counter.trial():
            counter.keep()
            with counter.trial():
                counter.bring("b")
            counter.bring("a")
        self.assertEqual(counter.journal, ("come 3 plain", "bring a"))

    def test_an_error_leaves_the_inner_block_alone(self):
        counter = begun()
        with counter.trial():
            counter.bring("a")
            with self.assertRaises(KeyError):
                with counter.trial():
                    counter.bring("b")
                    counter.keep()
                    raise KeyError("x")
            self.assertEqual(counter.out, ("b",))
            counter.keep()
        self.assertEqual(counter.journal, ("come 3 plain", "bring a"))

    def test_left_by_return_and_break(self):
        def deed(counter, keep):
            with counter.trial():
                counter.bring("b")
                if keep:
                    counter.keep()
                return counter.out
        counter = begun()
        self.assertEqual((deed(counter, False), counter.out), (("a",), ("a", "b")))
        self.assertEqual((deed(counter, True), counter.out), (("a",), ("a",)))
        for keep in (False, True):
            counter = begun()
            for _ in range(3):
                with counter.trial():
                    counter.bring("b")
                    if keep:
                        counter.keep()
                    break
            self.assertEqual(counter.done, 2 if keep else 1)

    def test_a_block_begins_where_it_is_entered(self):
        counter = begun()
        block = counter.trial()
        refused(self, NoTrial, None, counter.keep)
        counter.bring("b")
        with block:
            counter.bring("a")
        self.assertEqual(counter.journal, ("come 3 plain", "bring b"))

    def test_outside_of_all_blocks(self):
        refused(self, NoTrial, None, Counter(Case(TEXT)).keep)

    def test_blocks_of_two_counters(self):
        one, other = begun(), begun()
        with one.trial(), other.trial():
            one.bring("a")
            other.bring("b")
            one.keep()
        self.assertEqual((one.out, other.out), (("b",), ("a", "b")))


class TriedTest(unittest.TestCase):
    def test_returns_what_look_returned(self):
        counter, ahead = begun(), told(begun())
        row = [1, {"a": ()}]
        self.assertIs(counter.tried(lambda held: row), row)
        self.assertIsNone(counter.tried(lambda held: held.bring("a")))
        self.assertEqual(counter.tried(lambda held: held.bring_by("row b a")), "b")
        self.assertEqual(counter.tried(look=lambda held: (held.redo(), held.out, held.paid)[1:]), (("b",), 6))
        self.assertTrue(same(told(counter), ahead))

    def test_kept_for_true_alone(self):
        for value in [*any_values(), True]:
            counter, ahead = begun(), told(begun())
            counter.tried(lambda held: held.bring("b"), keep=value)
            if value is True:
                self.assertEqual(counter.journal, ("come 3 plain", "bring b"))
            else:
                self.assertTrue(same(told(counter), ahead), value)
            refused(self, NoTrial, None, counter.keep)

    def test_kept_by_look(self):
        for keep in (False, True, None):
            counter = begun()
            self.assertEqual(counter.tried(lambda held: (held.bring("b"), held.keep(), held.out)[2], keep=keep), ("a",))
            self.assertEqual(counter.out, ("a",))

    def test_look_within_a_block_and_a_block_within_look(self):
        counter, ahead = begun(), told(begun())
        with counter.trial():
            counter.tried(lambda held: held.bring("a"), keep=True)
            self.assertEqual(counter.out, ("b",))
        self.assertTrue(same(told(counter), ahead))

        def look(held):
            with held.trial():
                held.bring("a")
                held.keep()
            return held.tried(lambda inner: inner.bring_by("dearest"))
        self.assertEqual((counter.tried(look), counter.out), ("b", ("a", "b")))
        self.assertEqual((counter.tried(look, keep=True), counter.out), ("b", ("b",)))

    def test_what_look_does_to_other_things_stays(self):
        counter, ahead, seen = begun(), told(begun()), []

        def look(held):
            held.bring("a")
            seen.append(held.paid)
            held.bring("a")
        refused(self, NotOut, "a", counter.tried, look)
        self.assertEqual(seen, [6])
        self.assertTrue(same(told(counter), ahead))

    def test_keep_is_given_by_name(self):
        with self.assertRaises(TypeError):
            begun().tried(lambda held: None, True)


if __name__ == "__main__":
    unittest.main()
