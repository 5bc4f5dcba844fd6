"""Habits: what they take, what they cost, and what they lose beside the best row, at the worst."""

from finestairs.basics import is_whole
from finestairs.calendars import is_calendar, is_out, is_told, is_visit, some_of, without
from finestairs.errors import BadCalendar, BadOut, BadVisit
from finestairs.leads import Leads
from finestairs.moving import can_move, lost_moving
from finestairs.ranks import best
from finestairs.scores import scores_of, taken_on, taken_when, words_of
from finestairs.shapes import first_unlike, rising
from finestairs.ways import Ways


def taken(case, habit, out, visit):
    """The thing that the habit takes on a visit, of those that are out."""
    words = words_of(case, habit)
    if not is_out(case, out):
        raise BadOut(out)
    if not is_visit(case, visit):
        raise BadVisit(visit)
    return _taken(case, words, out, visit)


def spent(case, habit, calendar):
    """What the habit costs in all, and the row in which it brings things."""
    words = words_of(case, habit)
    if not is_calendar(case, calendar):
        raise BadCalendar(calendar)
    asked = 0
    row = []
    out = case.things
    for day, kind in calendar:
        thing = _taken(case, words, out, (day, kind))
        asked += case.bill(thing, kind)[day]
        row.append(thing)
        out = without(out, thing)
    return asked, tuple(row)


def loss(case, habit):
    """What the habit costs more than the best row, at the most, and a calendar by which it does."""
    return Leads(case, Ways(case, habit)).told()


def shows_loss(case, habit, value):
    """Whether any value is what loss can tell."""
    words_of(case, habit)
    if is_told(value, "most", 3):
        return _is_most(case, habit, value)
    if is_told(value, "endless", 3):
        return _is_endless(case, habit, value)
    return False


def alike(case, habit, other):
    """Whether two habits always take the same thing; if not, the first day on which they do not."""
    apart = _first_apart(case, habit, other)
    return ("alike",) if apart is None else ("apart", *apart)


def shows_alike(case, habit, other, value):
    """Whether any value is what alike can tell."""
    apart = _first_apart(case, habit, other)
    if apart is None:
        return is_told(value, "alike", 1)
    if not is_told(value, "apart", 3) or not is_out(case, value[1]) or not is_visit(case, value[2]):
        return False
    _, out, visit = value
    return visit[0] == apart[1][0] and taken(case, habit, out, visit) != taken(case, other, out, visit)


def _taken(case, words, out, visit):
    day, kind = visit
    return taken_on(scores_of(case, words, out, kind), day)


def _is_most(case, habit, value):
    """Whether just this number is lost by the calendar, and it is the greatest one."""
    _, number, calendar = value
    if not is_whole(number) or not is_calendar(case, calendar):
        return False
    if spent(case, habit, calendar)[0] - best(case, calendar)[0] != number:
        return False
    return loss(case, habit)[:2] == ("most", number)


def _is_endless(case, habit, value):
    """Whether moving the calendar on from this visit loses as many as it is moved by, at the least."""
    _, calendar, number = value
    if not is_calendar(case, calendar) or not is_whole(number) or not 0 <= number < len(case):
        return False
    return can_move(case, calendar, number) and rising().nowhere_above(lost_moving(case, habit, calendar, number))


def _first_apart(case, habit, other):
    """Two things and the earliest visit on which two habits take unlike ones of any; None if there is none."""
    its, others = words_of(case, habit), words_of(case, other)
    apart = None
    for kind in case.kinds:
        # Both take the first thing of all that are out by a sequence of things, so where they take unlike
        # ones, there are two things that stand the other way round.
        for pair in some_of(case.things, 2):
            day = first_unlike(_days_of_first(case, its, pair, kind), _days_of_first(case, others, pair, kind))
            if day is not None and (apart is None or day < apart[1][0]):
                apart = (pair, (day, kind))
    return apart


def _days_of_first(case, words, pair, kind):
    """Marks of the days on which the first one of two things is taken."""
    return taken_when(scores_of(case, words, pair, kind))[0][1]
