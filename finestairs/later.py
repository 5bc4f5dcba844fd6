"""Coming later: whether it can be cheaper, and by how much at the most."""

from finestairs.basics import is_whole
from finestairs.calendars import are_visits, is_told
from finestairs.floors import are_floors, least_floors
from finestairs.shapes import first_with, rising


def later(case, thing):
    """Floors if coming later is never cheaper; otherwise two visits by which most is saved."""
    savings = _savings(case, thing)
    for kind, behind, saved in savings:
        if saved.top is None:
            return _endless(case, thing, kind, behind)
    most = max([row[2].top for row in savings], default=0)
    if most <= 0:
        return ("never", least_floors(bills_of(case, thing)))
    kind, behind, saved = [row for row in savings if row[2].top == most][0]
    day = first_with(saved, most, 0)
    least = case.bill(thing, kind)[day] - most
    return ("saves", most, (day, kind), (first_with(case.bill(thing, behind), least, day + 1), behind))


def shows_later(case, thing, value):
    """Whether any value is what later can tell."""
    bills = bills_of(case, thing)
    if is_told(value, "never", 2):
        return are_floors(case, bills, value[1])
    if is_told(value, "saves", 4):
        return are_visits(case, value[2:], 2) and _saves(case, thing, value)
    if is_told(value, "endless", 3):
        return are_visits(case, value[1:], 2) and _is_endless(case, thing, value)
    return False


def bills_of(case, thing):
    """What is asked for a thing, for each kind."""
    return tuple([case.bill(thing, kind) for kind in case.kinds])


def _savings(case, thing):
    """For each kind, and each that can come behind it, the most that coming behind each day saves."""
    bills = dict(zip(case.kinds, bills_of(case, thing)))
    # No bill falls without end, so there is a least one behind each day.
    return [
        (kind, behind, bills[kind] + (-bills[behind]).from_here.moved(1))
        for kind in case.kinds
        for behind in case.after(kind)
    ]


def _endless(case, thing, kind, behind):
    """Two visits of these kinds that can be moved on, the second one asking less and less."""
    saved = case.bill(thing, kind) - case.bill(thing, behind).moved(1)
    first, number, _ = saved.pieces[-1]
    # Each day there saves one more at the least, so nothing is lost so many days behind.
    day = first + max(0, -number)
    return ("endless", (day, kind), (day + 1, behind))


def _saves(case, thing, value):
    """Whether the two visits save this number, and it is the greatest one."""
    _, number, (day, kind), (other, behind) = value
    if not is_whole(number) or case.bill(thing, kind)[day] - case.bill(thing, behind)[other] != number:
        return False
    return later(case, thing)[:2] == ("saves", number)


def _is_endless(case, thing, value):
    """Whether moving both visits on by any number of days saves this number at the least."""
    _, (day, kind), (other, behind) = value
    saved = case.bill(thing, kind).moved(day) - case.bill(thing, behind).moved(other)
    return rising().nowhere_above(saved)
