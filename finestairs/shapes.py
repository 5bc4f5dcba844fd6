"""Stairs of simple shapes, and Stairs put together from parts of others.

Some days among all are told by marks: Stairs that are 1 on these days and 0 on all others.
"""

from finestairs.basics import piece_on
from finestairs.stairs import Stairs


def level(number):
    """The same number on all days."""
    return Stairs(((0, number, 0),))


def rising():
    """On each day the number of this day."""
    return Stairs(((0, 0, 1),))


def days_above(stairs, number):
    """Marks of the days on which there is more than this number."""
    return ((stairs - level(number)) | level(0)) & level(1)


def days_from(day):
    """Marks of this day, which is above 0, and all behind it."""
    return Stairs(((0, 0, 0), (day, 1, 0)))


def first_with(stairs, number, day):
    """The first day, this one or one behind it, that has this number; there must be one."""
    return day + stairs.moved(day).days_of(number)[0][0]


def first_unlike(one, other):
    """The first day on which two Stairs have unlike numbers; None if there is none."""
    days = [one.first_less(other), other.first_less(one)]
    return min([day for day in days if day is not None], default=None)


def pieced(parts):
    """On the days of each stretch the numbers of the Stairs beside it; 0 on days of no stretch."""
    pieces = []
    free = 0
    for (first, last), stairs in sorted(parts, key=lambda part: part[0][0]):
        if free < first:
            pieces.append((free, 0, 0))
        pieces.append((first, stairs[first], piece_on(stairs.pieces, first)[2]))
        pieces.extend([piece for piece in stairs.pieces if first < piece[0] and (last is None or piece[0] <= last)])
        free = None if last is None else last + 1
    if free is not None:
        pieces.append((free, 0, 0))
    return Stairs(tuple(pieces))
