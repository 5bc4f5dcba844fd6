"""Heights: why a habit cannot lose more beside one row, in numbers that anybody checks by adding Stairs."""

from finestairs.basics import is_whole
from finestairs.calendars import is_out, is_row, without
from finestairs.errors import BadRow, Endless
from finestairs.scores import scores_of, taken_when, words_of
from finestairs.shapes import days_from, level, pieced
from finestairs.stairs import Stairs
from finestairs.stretches import are_stretches, marked, nowhere_less
from finestairs.ways import Ways


def heights(case, habit, row):
    """The greatest sum of the leads of a calendar, and rows that show that no sum is greater."""
    ways = Ways(case, habit)
    if not is_row(case, row):
        raise BadRow(row)
    found = {}
    for many in range(1, len(case) + 1):
        for out, kind in ways.places(many):
            found[out, kind] = _height(case, ways, row, found, (out, kind))
            if ways.is_free(out, kind) and found[out, kind].top is None:
                raise Endless(row)
    number = max([found[case.things, kind].top for kind in case.kinds])
    return number, tuple([
        (out, kind, ways.days(out, kind).days_of(1), found[out, kind]) for out, kind in sorted(list(found))
    ])


def shows_heights(case, habit, row, value):
    """Whether any value is what heights can tell."""
    number = heights(case, habit, row)[0]
    if not isinstance(value, tuple) or len(value) != 2 or not is_whole(value[0]) or value[0] != number:
        return False
    rows = value[1]
    if not _are_rows(case, rows) or not _are_begun(case, number, rows):
        return False
    words = words_of(case, habit)
    by_place = {(out, kind): (marked(days), stairs) for out, kind, days, stairs in rows}
    return all([_holds(case, words, row, by_place, (out, kind)) for out, kind, _, _ in rows])


def _lead(case, row, place, thing):
    """The leads of the visits of a place, on which this thing is taken."""
    out, kind = place
    return case.bill(thing, kind) - case.bill(row[len(case) - len(out)], kind)


def _height(case, ways, row, found, place):
    """The greatest sums of leads from visits of this place on, by those found for fewer things."""
    out, kind = place
    parts = []
    for thing, days in ways.takes(out, kind):
        stairs = _then(case, found, without(out, thing), kind) + _lead(case, row, place, thing)
        parts.extend([(stretch, stairs) for stretch in days.days_of(1)])
    return pieced(parts)


def _then(case, found, rest, kind):
    """The greatest sums of leads behind visits of this kind, on which all but the rest are brought."""
    if len(rest) == 0:
        return level(0)
    most = found[rest, kind]
    for behind in case.after(kind):
        most = most | found[rest, behind].from_here.moved(1)
    return most


def _are_rows(case, value):
    """Whether any value is a tuple of what rows hold, ascending by out and kind."""
    if not isinstance(value, tuple) or not all([_is_held(case, part) for part in value]):
        return False
    places = [part[:2] for part in value]
    return places == sorted(set(places))


def _is_held(case, value):
    """Whether any value is things that are out, a kind, stretches and Stairs."""
    if not isinstance(value, tuple) or len(value) != 4:
        return False
    out, kind, days, stairs = value
    if not is_out(case, out) or kind not in case.kinds:
        return False
    return are_stretches(days) and isinstance(stairs, Stairs)


def _are_begun(case, number, rows):
    """Whether there is a row for the first visit of each kind, nowhere above the number."""
    begun = [
        kind for out, kind, days, stairs in rows
        if out == case.things and days == ((0, None),) and stairs.nowhere_above(level(number))
    ]
    return all([kind in begun for kind in case.kinds])


def _holds(case, words, row, by_place, place):
    """Whether the Stairs of a place are on none of its days less than what the rows of fewer things call for."""
    out, kind = place
    marks, stairs = by_place[place]
    for thing, when in taken_when(scores_of(case, words, out, kind)):
        days = (marks & when).days_of(1)
        if len(days) > 0:
            least = _called_for(case, by_place, without(out, thing), kind, marks & when)
            if least is None or not nowhere_less(stairs, least + _lead(case, row, place, thing), days):
                return False
    return True


def _called_for(case, by_place, rest, kind, marks):
    """The least numbers behind visits of this kind on these days; None if the rows tell none."""
    if len(rest) == 0:
        return level(0)
    least = _stairs_on(by_place, (rest, kind), marks)
    if least is None:
        return None
    behind = days_from(marks.days_of(1)[0][0] + 1)
    for other in case.after(kind):
        stairs = _stairs_on(by_place, (rest, other), behind)
        if stairs is None or stairs.top is None:
            return None
        least = least | stairs.from_here.moved(1)
    return least


def _stairs_on(by_place, place, marks):
    """The Stairs of the row of a place, if its days have all these days; None otherwise."""
    if place not in by_place:
        return None
    days, stairs = by_place[place]
    return stairs if marks.nowhere_above(days) else None
