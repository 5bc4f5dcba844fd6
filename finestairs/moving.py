"""Calendars that are moved on, from a visit on, by any number of days: what a habit loses by them."""

from finestairs.calendars import without
from finestairs.scores import scores_of, taken_when, words_of
from finestairs.shapes import level, pieced


def can_move(case, calendar, number):
    """Whether the visit with this number, and all behind it, can be moved on by any number of days."""
    if number == 0:
        return True
    day, kind = calendar[number]
    return calendar[number - 1][0] < day or kind in case.after(kind)


def lost_moving(case, habit, calendar, number):
    """What the habit loses, by the number of days by which all from that visit on is moved."""
    words = words_of(case, habit)
    visits = []
    for at, (day, kind) in enumerate(calendar):
        scores = scores_of(case, words, case.things, kind)
        moves = at >= number
        visits.append({
            thing: (_seen(case.bill(thing, kind), day, moves), _seen(score, day, moves)) for thing, score in scores
        })
    return _spent(visits, case.things) - _least(visits, case.things)


def _seen(stairs, day, moves):
    """The numbers of a day that is moved on, or stays."""
    return stairs.moved(day) if moves else level(stairs[day])


def _spent(visits, out):
    """What the habit costs on these visits, these things being out."""
    if len(out) == 0:
        return level(0)
    parts = []
    for thing, days in taken_when([(one, visits[0][one][1]) for one in out]):
        if days.top == 1:
            asked = visits[0][thing][0] + _spent(visits[1:], without(out, thing))
            parts.extend([(stretch, asked) for stretch in days.days_of(1)])
    return pieced(parts)


def _least(visits, out):
    """What the cheapest row costs on these visits, these things being out."""
    if len(out) == 0:
        return level(0)
    rows = [visits[0][one][0] + _least(visits[1:], without(out, one)) for one in out]
    least = rows[0]
    for stairs in rows[1:]:
        least = least & stairs
    return least
