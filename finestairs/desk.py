"""A desk: a counter that is told and asked by lines."""

from finestairs.basics import written
from finestairs.cases import Case
from finestairs.counters import Counter
from finestairs.deeds import deed_of, do, words_in
from finestairs.errors import BadSay
from finestairs.habits import loss
from finestairs.later import later
from finestairs.ranks import ranked


class Desk:
    """A counter that is told and asked by lines."""

    def __init__(self, text):
        self._counter = Counter(Case(text))

    @property
    def counter(self):
        """The counter at which the lines are done."""
        return self._counter

    def say(self, line):
        """Does, or answers, what a line says."""
        words = [] if isinstance(line, str) and "\n" in line else words_in(line)
        deed = deed_of(words)
        if deed is not None:
            do(self._counter, deed)
            return "done"
        if len(words) == 1:
            answer = self._plain(words[0])
        else:
            answer = self._about(words[0], words[1:]) if words else None
        if answer is None:
            raise BadSay(line)
        return answer

    def _plain(self, word):
        """The answer to a line of this word alone; None if it has no form."""
        counter = self._counter
        if word == "undo":
            counter.undo()
            return "done"
        if word == "redo":
            counter.redo()
            return "done"
        if word == "paid":
            return written(counter.paid)
        if word == "out":
            return " ".join(counter.out)
        if word == "visit":
            return _visit_text(counter.visit)
        return _row_text(ranked(counter.case)) if word == "ranked" else None

    def _about(self, word, told):
        """The answer to a line of a word and what it is about, one or more words; None if it has no form."""
        counter = self._counter
        if word == "by":
            return counter.bring_by(" ".join(told))
        if word == "loss":
            return _number_text(loss(counter.case, " ".join(told)))
        if word == "bill" and len(told) == 2:
            return counter.case.bill(told[0], told[1]).text
        if word == "later" and len(told) == 1:
            return _number_text(later(counter.case, told[0]))
        return None


def _visit_text(visit):
    if visit is None:
        return "none"
    day, kind = visit
    return f"{written(day)} {kind}"


def _row_text(told):
    return " ".join(told[1]) if told[0] == "row" else "none"


def _number_text(told):
    """The number that is saved or lost, or the word that tells of none."""
    return written(told[1]) if told[0] in ("saves", "most") else told[0]
