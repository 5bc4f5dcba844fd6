"""What the tests share: any values, stairs of all shapes, and numbers day by day."""

import random

from finestairs.errors import BadDay, FineError
from finestairs.stairs import Stairs


def any_values():
    """Values of any kind, made anew, so that a test can see whether one was changed."""
    deep = 1
    for _ in range(20):
        deep = (deep,)
    return [
        0, 1, 2, -1, 10 ** 20, -10 ** 39, True, False, None,
        "", "a", "0", "0 0 0", "0 0 0, 3 2 2", "3 from 1", "free 2, 3 from 1", "a\nb", "None",
        (), (0,), (0, 0, 0), ((0, 0, 0),), ((0, 5, 1), (4, 0, 0)), ((0, 0, 0), (0, 1, 1)), (1, (2, (3,))),
        [], [0], [0, 0, 0], [(0, 0, 0)], [[0, 0, 0]], [[[]]], ([0, 0, 0],), ((0, 0, [0]),),
        {}, {0: 0}, {"a": [1, {2: (3, None)}]}, ({},), [{}],
        Stairs(((0, 1, 2),)), (Stairs(((0, 1, 2),)),), [Stairs(((0, 1, 2),))],
        FineError(3), BadDay(("a", [])), deep,
    ]


def number_on(pieces, day):
    """The number of a day, just as pieces are told of."""
    found = [piece for piece in pieces if piece[0] <= day][-1]
    return found[1] + found[2] * (day - found[0])


def numbers(pieces, many):
    """The numbers of the first days."""
    return [number_on(pieces, day) for day in range(many)]


def in_one_way(row):
    """The pieces of a row of numbers that is straight at its end, found day by day."""
    pieces, day = [], 0
    while day + 1 < len(row):
        rate, last = row[day + 1] - row[day], day + 1
        while last + 1 < len(row) and row[last + 1] - row[last] == rate:
            last += 1
        pieces.append((day, row[day], rate))
        day = last + 1
    return tuple(pieces)


def stretches(days, endless_from):
    """Stretches of ascending days; those that come so far are without end."""
    found = []
    for day in days:
        if found and found[-1][1] == day - 1:
            found[-1][1] = day
        else:
            found.append([day, day])
    return tuple((first, None if last >= endless_from else last) for first, last in found)


def handmade():
    """Pieces of each shape that is told of: jumps, single days, crossings, rises and falls without end."""
    return [
        ((0, 0, 0),), ((0, -3, 0),), ((0, 7, 0),), ((0, 0, 1),), ((0, 2, -1),), ((0, -9, 2),), ((0, 9, -3),),
        ((0, 7, 0), (1, 7, 0)), ((0, 0, 0), (1, 5, 0), (2, 0, 0)), ((0, 0, 0), (3, 2, 2)),
        ((0, 9, -1), (5, 4, 0)), ((0, 5, 0), (1, 0, 0)), ((0, 1, 4), (1, 2, 4), (2, 3, 4), (3, 4, 1)),
        ((0, 4, 0), (4, 9, 0), (5, 4, 0)), ((0, 4, 0), (4, 9, 0), (6, 4, 0)), ((0, 0, 3), (2, 6, 3), (6, 0, -1)),
        ((0, 0, 1), (4, 4, 0), (8, 4, -1), (12, 0, 0)), ((0, 0, 5), (3, 2, 5), (6, 1, 5), (9, 0, 5)),
        ((0, 9, -2), (2, 9, -2), (4, 9, -2)), ((0, 3, 1), (1, 3, -1), (2, 3, 1), (3, 3, -1), (4, 3, 0)),
        ((0, 1, 0), (1, 2, 0), (2, 3, 0), (3, 4, 0), (4, 5, 0)), ((0, 6, -4), (2, -2, 3), (7, 5, 0), (8, 0, 1)),
        ((0, 5, -1), (6, 5, -2), (9, 5, 0)), ((0, -5, 1), (6, -5, 2), (9, -5, 0)),
    ]


def made(many, seed):
    """Pieces by chance, but always the same ones, small enough to go day by day."""
    chance = random.Random(seed)
    rows = []
    for _ in range(many):
        day, pieces = 0, []
        for _ in range(chance.randint(1, 6)):
            pieces.append((day, chance.randint(-8, 8), chance.choice((-3, -2, -1, 0, 0, 0, 1, 2, 3))))
            day += chance.choice((1, 1, 2, 2, 3, 5))
        rows.append(tuple(pieces))
    return rows


def made_far(many, seed):
    """Pieces by chance with days and numbers as great as can be."""
    chance = random.Random(seed)
    rows = []
    for _ in range(many):
        day, pieces = 0, []
        for _ in range(chance.randint(1, 6)):
            great = 10 ** chance.choice((1, 20, 39))
            steep = 10 ** chance.choice((0, 3, 18))
            pieces.append((day, chance.randint(-great, great), chance.randint(-steep, steep)))
            day += chance.choice((1, 2, chance.randint(3, 10 ** 6), chance.randint(3, 10 ** 21)))
        rows.append(tuple(pieces))
    return rows


def corners(*rows):
    """Days around those on which any of these pieces begin, and far behind them, ascending."""
    days = set()
    for pieces in rows:
        for first, *_ in pieces:
            days |= {first + by for by in range(-3, 4)}
        days |= {pieces[-1][0] + by for by in (10 ** 6, 10 ** 22, 10 ** 39)}
    ascending = sorted(day for day in days if day >= 0)
    middles = {(one + other) // 2 for one, other in zip(ascending, ascending[1:])}
    return sorted(middles | set(ascending))
