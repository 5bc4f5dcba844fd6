"""Bills that were seen: on which days they can have been, and what can be asked next."""

from finestairs.basics import is_whole
from finestairs.errors import BadSeen, CannotCome, NeverSo, NoKind, NoThing
from finestairs.shapes import days_from, level, pieced
from finestairs.stretches import marked

# No more visits than that on which bills were seen.
MOST = 8


def days_seen(case, seen):
    """For each visit the days on which it can have been; or the number of the first one that cannot have been."""
    _check(case, seen)
    days = _days_so_far(case, seen)
    if len(days) < len(seen):
        return ("never", len(days))
    return ("days", tuple([marks.days_of(1) for marks in _days_with_all(case, seen, days)]))


def asked_next(case, seen, thing, kind):
    """The least and the greatest number that can be asked for a thing on a next visit of this kind."""
    _check(case, seen)
    if thing not in case:
        raise NoThing(thing)
    if kind not in case.kinds:
        raise NoKind(kind)
    days = _days_so_far(case, seen)
    if len(days) < len(seen):
        raise NeverSo(len(days))
    following = _following(case, days[-1], seen[-1][1], kind).days_of(1)
    if len(following) == 0:
        raise CannotCome(kind)
    asked = [_numbers(case.bill(thing, kind), stretch) for stretch in following]
    tops = [stairs.top for stairs in asked]
    return min([stairs.bottom for stairs in asked]), None if None in tops else max(tops)


def _check(case, seen):
    if not isinstance(seen, tuple) or not 0 < len(seen) <= MOST or not all([_is_seen(case, part) for part in seen]):
        raise BadSeen(seen)


def _is_seen(case, value):
    """Whether any value is a thing, a kind and a bill."""
    if not isinstance(value, tuple) or len(value) != 3:
        return False
    thing, kind, bill = value
    return thing in case and kind in case.kinds and is_whole(bill)


def _days_so_far(case, seen):
    """Marks of the days that fit all bills ahead, as far as there are any."""
    found = []
    before = None
    for thing, kind, bill in seen:
        marks = marked(case.bill(thing, kind).days_of(bill))
        if before is not None:
            marks = marks & _following(case, found[-1], before, kind)
        if marks.top == 0:
            return found
        found.append(marks)
        before = kind
    return found


def _days_with_all(case, seen, days):
    """Marks of the days that fit all bills behind, too, of those that fit all ahead."""
    found = [days[-1]]
    for at in range(len(seen) - 2, -1, -1):
        found.append(days[at] & _leading(case, found[-1], seen[at][1], seen[at + 1][1]))
    return found[::-1]


def _following(case, marks, before, kind):
    """Marks of the days of visits of this kind that can follow one of the kind before on these days."""
    days = marks if before == kind else level(0)
    if kind in case.after(before):
        days = days | days_from(marks.days_of(1)[0][0] + 1)
    return days


def _leading(case, marks, before, kind):
    """Marks of the days of visits of the kind before that one of this kind can follow on these days."""
    days = marks if before == kind else level(0)
    if kind in case.after(before):
        days = days | _days_ahead(marks.days_of(1)[-1][1])
    return days


def _days_ahead(day):
    """Marks of all days ahead of this one; of all days for None."""
    if day is None:
        return level(1)
    return marked(((0, day - 1),)) if day > 0 else level(0)


def _numbers(stairs, stretch):
    """Stairs that have the numbers of these on the days of a stretch, and no others."""
    first, last = stretch
    if last is None:
        return stairs.moved(first)
    return pieced([((0, last - first), stairs.moved(first)), ((last - first + 1, None), level(stairs[last]))])
