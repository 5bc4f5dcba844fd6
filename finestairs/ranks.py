"""One row for all calendars: what rows cost, and whether there is a row that is best whatever days will be."""

from finestairs.calendars import are_visits, is_calendar, is_row, is_told, rows_of, without
from finestairs.errors import BadCalendar, BadRow
from finestairs.floors import are_floors, first_fall, least_floors


def cost(case, row, calendar):
    """What is asked in all if things are brought in this row."""
    if not is_row(case, row):
        raise BadRow(row)
    if not is_calendar(case, calendar):
        raise BadCalendar(calendar)
    return _asked(case, row, calendar)


def best(case, calendar):
    """The least cost of all rows, and a row with it."""
    if not is_calendar(case, calendar):
        raise BadCalendar(calendar)
    return min([(_asked(case, row, calendar), row) for row in rows_of(case.things)])


def ranked(case):
    """A row that is best for all calendars, with floors; or two things for which there is none."""
    falls = {
        (one, other): first_fall(case, _apart(case, one, other))
        for one in case.things
        for other in without(case.things, one)
    }
    for one, other in falls:
        if falls[one, other] is not None and falls[other, one] is not None:
            return ("none", one, other, falls[one, other], falls[other, one])
    row = _in_row(case.things, falls)
    return ("row", row, tuple([least_floors(_apart(case, one, other)) for one, other in zip(row, row[1:])]))


def can_go_ahead(case, one, other):
    """Whether one thing can go ahead of another one."""
    return first_fall(case, _apart(case, one, other)) is None


def shows_ranked(case, value):
    """Whether any value is what ranked can tell."""
    if is_told(value, "row", 3):
        return is_row(case, value[1]) and _are_all_floors(case, value[1], value[2])
    if is_told(value, "none", 5):
        return _are_apart(case, value)
    return False


def _asked(case, row, calendar):
    return sum([case.bill(thing, kind)[day] for thing, (day, kind) in zip(row, calendar)])


def _apart(case, one, other):
    """For each kind what is asked for one more than for the other."""
    return tuple([case.bill(one, kind) - case.bill(other, kind) for kind in case.kinds])


def _in_row(things, falls):
    """The row in which each thing can go ahead of all behind it, where of each two one can."""
    row = ()
    for thing in things:
        # What can go ahead of one thing can go ahead of all that this one can go ahead of.
        ahead = [other for other in row if falls[other, thing] is None]
        row = (*ahead, thing, *[other for other in row if other not in ahead])
    return row


def _are_all_floors(case, row, value):
    """Whether any value is floors for each two neighbours of a row."""
    if not isinstance(value, tuple) or len(value) != len(row) - 1:
        return False
    return all([
        are_floors(case, _apart(case, one, other), floors)
        for one, other, floors in zip(row, row[1:], value)
    ])


def _are_apart(case, value):
    """Whether one and then other costs more by the visits of calendar, and less by those of back."""
    _, one, other, calendar, back = value
    if one not in case or other not in case:
        return False
    if not are_visits(case, calendar, 2) or not are_visits(case, back, 2):
        return False
    return _more(case, one, other, calendar) > 0 > _more(case, one, other, back)


def _more(case, one, other, visits):
    """What one and then other costs more than other and then one."""
    return _asked(case, (one, other), visits) - _asked(case, (other, one), visits)
