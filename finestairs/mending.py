"""The least change: bills by which coming later is never cheaper, as near to those of a case as can be."""

from finestairs.basics import is_whole
from finestairs.errors import Endless
from finestairs.floors import first_fall
from finestairs.later import bills_of, later
from finestairs.shapes import level, pieced
from finestairs.stairs import Stairs


def mended(case, thing):
    """By how much bills must be changed at the least, and such bills, for each kind."""
    number = _least_change(case, thing)
    return number, tuple([_changed(stairs, number) for stairs in _greatest_ahead(case, bills_of(case, thing))])


def shows_mended(case, thing, value):
    """Whether any value is what mended can tell."""
    number = _least_change(case, thing)
    if not isinstance(value, tuple) or len(value) != 2 or not is_whole(value[0]) or value[0] != number:
        return False
    stairs = value[1]
    if not isinstance(stairs, tuple) or len(stairs) != len(case.kinds):
        return False
    if not all([isinstance(one, Stairs) for one in stairs]):
        return False
    if not all([_is_near(one, asked, number) for one, asked in zip(stairs, bills_of(case, thing))]):
        return False
    return first_fall(case, stairs) is None


def _least_change(case, thing):
    told = later(case, thing)
    if told[0] == "endless":
        raise Endless(thing)
    # Of two bills that are to change places, each one goes half of the way.
    return (told[1] + 1) // 2 if told[0] == "saves" else 0


def _greatest_ahead(case, bills):
    """For each kind: on each day the greatest bill of this visit and of all visits that it can follow."""
    found = []
    for kind, asked in zip(case.kinds, bills):
        most = asked
        for before, ahead in zip(case.kinds, bills):
            if kind in case.after(before):
                most = most | ahead.so_far.held(1)
        # A visit on day 0 follows none but itself.
        found.append(pieced([((0, 0), asked), ((1, None), most)]))
    return found


def _changed(stairs, number):
    """So much less, but no less than 0."""
    return (stairs - level(number)) | level(0)


def _is_near(stairs, asked, number):
    """Whether the Stairs are nowhere below 0, and nowhere further from what is asked than this number."""
    if not level(0).nowhere_above(stairs):
        return False
    return stairs.nowhere_above(asked + level(number)) and asked.nowhere_above(stairs + level(number))
