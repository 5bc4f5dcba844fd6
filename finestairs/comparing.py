"""Cases beside one another: whether one asks more, less or the same, and from which day on they differ."""

from finestairs.calendars import is_told, is_visit
from finestairs.cases import Case, same_names
from finestairs.errors import OtherCase
from finestairs.shapes import first_unlike


def compared(case, other):
    """Whether case asks always the same, never more or never less than other; or visits on which less and more."""
    _check(case, other)
    one, its = _first_less(case, other), _first_less(other, case)
    if one is None and its is None:
        return ("alike",)
    if its is None:
        return ("never more",)
    if one is None:
        return ("never less",)
    return ("open", one, its)


def shows_compared(case, other, value):
    """Whether any value is what compared can tell."""
    told = compared(case, other)
    if told[0] != "open":
        return is_told(value, told[0], 1)
    if not is_told(value, "open", 3):
        return False
    one, its = value[1:]
    if not _is_asked(case, one) or not _is_asked(case, its):
        return False
    return _number(case, one) < _number(other, one) and _number(case, its) > _number(other, its)


def first_apart(case, other):
    """The earliest day on which bills differ, with the first thing and kind; None if there is none."""
    _check(case, other)
    found = None
    for thing in case.things:
        for kind in case.kinds:
            day = first_unlike(case.bill(thing, kind), other.bill(thing, kind))
            if day is not None and (found is None or day < found[0]):
                found = (day, thing, kind)
    return found


def _check(case, other):
    if not isinstance(other, Case) or not same_names(case, other):
        raise OtherCase(other)


def _first_less(case, other):
    """A thing and a visit for which case asks less than other; None if there is none."""
    for thing in case.things:
        for kind in case.kinds:
            day = case.bill(thing, kind).first_less(other.bill(thing, kind))
            if day is not None:
                return thing, (day, kind)
    return None


def _is_asked(case, value):
    """Whether any value is a thing and a visit."""
    return isinstance(value, tuple) and len(value) == 2 and value[0] in case and is_visit(case, value[1])


def _number(case, place):
    """What is asked for a thing on a visit."""
    thing, (day, kind) = place
    return case.bill(thing, kind)[day]
