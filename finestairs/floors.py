"""Floors: what shows that no visit behind another one is told less, and visits that are told less."""

from finestairs.shapes import first_with
from finestairs.stairs import Stairs


def least_floors(told):
    """The least floors that there can be of Stairs, one for each kind."""
    return tuple([stairs.so_far for stairs in told])


def are_floors(case, told, value):
    """Whether any value is floors of Stairs, one for each kind."""
    if not isinstance(value, tuple) or len(value) != len(case.kinds):
        return False
    if not all([isinstance(floor, Stairs) for floor in value]):
        return False
    by_kind = dict(zip(case.kinds, told))
    return all([
        by_kind[kind].nowhere_above(floor) and floor.nowhere_above(floor.moved(1)) and all([
            floor.nowhere_above(by_kind[behind].moved(1)) for behind in case.after(kind)
        ])
        for kind, floor in zip(case.kinds, value)
    ])


def first_fall(case, told):
    """Two visits of which the second one can follow, but is told less; None if there are none."""
    by_kind = dict(zip(case.kinds, told))
    for kind in case.kinds:
        floor = by_kind[kind].so_far
        for behind in case.after(kind):
            day = by_kind[behind].moved(1).first_less(floor)
            if day is not None:
                return (first_with(by_kind[kind], floor[day], 0), kind), (day + 1, behind)
    return None
