"""Stretches: days as a tuple of (first, last), last being None where they have no end, as few as can be."""

from finestairs.basics import is_day
from finestairs.shapes import level, pieced


def are_stretches(value):
    """Whether any value is one or more stretches."""
    if not isinstance(value, tuple) or len(value) == 0:
        return False
    if not all([_is_stretch(part) for part in value]):
        return False
    return all([one[1] is not None and one[1] + 1 < other[0] for one, other in zip(value, value[1:])])


def marked(days):
    """Marks of the days of stretches."""
    return pieced([(stretch, level(1)) for stretch in days])


def nowhere_less(one, other, days):
    """Whether one is on no day of the stretches less than other."""
    for first, last in days:
        by = one.moved(first).first_less(other.moved(first))
        if by is not None and (last is None or first + by <= last):
            return False
    return True


def _is_stretch(value):
    if not isinstance(value, tuple) or len(value) != 2:
        return False
    first, last = value
    return is_day(first) and (last is None or (is_day(last) and first <= last))
