"""Visits, calendars, rows and things that are out: which values are such ones, and which ones there are."""

from finestairs.basics import is_day


def is_visit(case, value):
    """Whether any value is a visit."""
    if not isinstance(value, tuple) or len(value) != 2:
        return False
    day, kind = value
    return is_day(day) and isinstance(kind, str) and kind in case.kinds


def can_follow(case, visit, other):
    """Whether the visit other can follow this one."""
    return visit == other or (visit[0] < other[0] and other[1] in case.after(visit[1]))


def are_visits(case, value, many):
    """Whether any value is a tuple of so many visits, each of which can follow the one ahead."""
    if not isinstance(value, tuple) or len(value) != many:
        return False
    if not all([is_visit(case, visit) for visit in value]):
        return False
    return all([can_follow(case, visit, other) for visit, other in zip(value, value[1:])])


def is_calendar(case, value):
    """Whether any value is a calendar."""
    return are_visits(case, value, len(case))


def is_row(case, value):
    """Whether any value is a row of all things."""
    if not isinstance(value, tuple) or len(value) != len(case):
        return False
    return all([thing in value for thing in case.things])


def is_out(case, value):
    """Whether any value is one or more things, in sequence, none twice."""
    if not isinstance(value, tuple) or len(value) == 0:
        return False
    return value == tuple([thing for thing in case.things if thing in value])


def is_told(value, word, many):
    """Whether any value is a tuple of so many parts, the first one this word."""
    return isinstance(value, tuple) and len(value) == many and value[0] == word


def without(things, thing):
    """All of these things but one."""
    return tuple([other for other in things if other != thing])


def rows_of(things):
    """All rows of these things."""
    if len(things) == 0:
        return [()]
    return [(thing, *row) for thing in things for row in rows_of(without(things, thing))]


def some_of(things, many):
    """All choices of so many of these things, each one in sequence."""
    if many == 0:
        return [()]
    return [
        (thing, *others)
        for at, thing in enumerate(things)
        for others in some_of(things[at + 1:], many - 1)
    ]
