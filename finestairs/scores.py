"""By what a habit goes: for each thing a score on each day, by which the greatest one is taken."""

from finestairs.basics import number_of
from finestairs.calendars import is_row
from finestairs.errors import BadHabit
from finestairs.shapes import days_above, level


def is_habit(case, value):
    """Whether any value is a habit."""
    return isinstance(value, str) and _are_words(case, value.split(" "))


def words_of(case, habit):
    """The words of a habit; BadHabit for any value that is none."""
    if not is_habit(case, habit):
        raise BadHabit(habit)
    return habit.split(" ")


def scores_of(case, words, out, kind):
    """The things that are out, each with its score on each day, if it is of this kind, by these words of a habit."""
    return [(thing, _score(case, words, thing, kind)) for thing in out]


def taken_on(scores, day):
    """The thing that is taken on a day, of a list of things in sequence, each with its score."""
    most = max([score[day] for _, score in scores])
    return [thing for thing, score in scores if score[day] == most][0]


def taken_when(scores):
    """For a list of things in sequence, each with its score: things and marks of the days when they are taken."""
    rows = []
    for at, (thing, score) in enumerate(scores):
        days = level(1)
        for _, other in scores[:at]:
            days = days & days_above(score - other, 0)
        for _, other in scores[at + 1:]:
            # Of several with the same score, the first one is taken.
            days = days & days_above(score - other, -1)
        rows.append((thing, days))
    return rows


def _are_words(case, words):
    """Whether the words are those of a habit."""
    if words in (["dearest"], ["cheapest"]):
        return True
    if len(words) == 2 and words[0] == "steepest":
        return number_of(words[1]) not in (None, 0)
    return words[:1] == ["row"] and is_row(case, tuple(words[1:]))


def _score(case, words, thing, kind):
    asked = case.bill(thing, kind)
    if words[0] == "dearest":
        return asked
    if words[0] == "cheapest":
        return -asked
    if words[0] == "steepest":
        return asked.moved(number_of(words[1])) - asked
    # A row may hold a thing that is called row, too.
    return level(-words.index(thing, 1))
