"""What the tests share: any values, stairs of all shapes, numbers day by day, and cases asked day by day."""

import copy
import itertools
import random

from finestairs.cases import Case
from finestairs.counters import Counter
from finestairs.desk import Desk
from finestairs.errors import BadDay, FineError
from finestairs.stairs import Stairs

# Other names of kinds and things, some of them words that mean something else, too.
RENAMED = {"p": "zeal", "q": "row", "r": "a", "s": "dearest", "w": "row", "x": "q", "y": "b", "z": "steepest"}


def any_values():
    """Values of any kind, made anew, so that a test can see whether one was changed."""
    deep = 1
    for _ in range(20):
        deep = (deep,)
    return [
        0, 1, 2, -1, 10 ** 20, -10 ** 39, True, False, None,
        "", "a", "0", "0 0 0", "0 0 0, 3 2 2", "3 from 1", "free 2, 3 from 1", "a\nb", "None",
        (), (0,), (0, 0, 0), ((0, 0, 0),), ((0, 5, 1), (4, 0, 0)), ((0, 0, 0), (0, 1, 1)), (1, (2, (3,))),
        [], [0], [0, 0, 0], [(0, 0, 0)], [[0, 0, 0]], [[[]]], ([0, 0, 0],), ((0, 0, [0]),),
        {}, {0: 0}, {"a": [1, {2: (3, None)}]}, ({},), [{}],
        Stairs(((0, 1, 2),)), (Stairs(((0, 1, 2),)),), [Stairs(((0, 1, 2),))],
        FineError(3), BadDay(("a", [])), deep,
        Case("kinds plain\nthing a due 0 2 from 1"), (Case("kinds plain\nthing a due 0"),), "plain", "kinds plain",
        Counter(Case("kinds plain\nthing a due 0")), [Desk("kinds plain\nthing a due 0")],
        ("a",), ("a", "b"), ("b", "a"), ["a", "b"], (0, "plain"), [0, "plain"], (True, "plain"), ("plain", 0),
        ((0, "plain"),), ((0, "plain"), (1, "plain")), ([0, "plain"], (1, "plain")), ((1, "plain"), (0, "plain")),
        "dearest", "row a b", "steepest 3", "steepest 0", ("never", ()), ("row", ("a", "b"), ()), ("alike",), ("most", 0, ()),
    ]


def same(value, other):
    """Whether two values are the same, also in what kinds of values they hold."""
    if value.__class__ is not other.__class__:
        return False
    if isinstance(value, (tuple, list)):
        return len(value) == len(other) and all(same(one, its) for one, its in zip(value, other))
    if isinstance(value, dict):
        return same(list(value.items()), list(other.items()))
    if isinstance(value, FineError):
        return same(value.value, other.value)
    if isinstance(value, Desk):
        return value.counter == other.counter
    return value == other


def refused(test, error, value, deed, *arguments, **named):
    """That a call raises just this error with this very value, and changes none of its arguments."""
    ahead = copy.deepcopy((arguments, named))
    with test.subTest(error=error.__name__, value=value):
        with test.assertRaises(error) as caught:
            deed(*arguments, **named)
        test.assertIs(caught.exception.__class__, error)
        test.assertIs(caught.exception.value, value)
        test.assertTrue(same((arguments, named), ahead))


def number_on(pieces, day):
    """The number of a day, just as pieces are told of."""
    found = [piece for piece in pieces if piece[0] <= day][-1]
    return found[1] + found[2] * (day - found[0])


def numbers(pieces, many):
    """The numbers of the first days."""
    return [number_on(pieces, day) for day in range(many)]


def in_one_way(row):
    """The pieces of a row of numbers that is straight at its end, found day by day."""
    pieces, day = [], 0
    while day + 1 < len(row):
        rate, last = row[day + 1] - row[day], day + 1
        while last + 1 < len(row) and row[last + 1] - row[last] == rate:
            last += 1
        pieces.append((day, row[day], rate))
        day = last + 1
    return tuple(pieces)


def stretches(days, endless_from):
    """Stretches of ascending days; those that come so far are without end."""
    found = []
    for day in days:
        if found and found[-1][1] == day - 1:
            found[-1][1] = day
        else:
            found.append([day, day])
    return tuple((first, None if last >= endless_from else last) for first, last in found)


def handmade():
    """Pieces of each shape that is told of: jumps, single days, crossings, rises and falls without end."""
    return [
        ((0, 0, 0),), ((0, -3, 0),), ((0, 7, 0),), ((0, 0, 1),), ((0, 2, -1),), ((0, -9, 2),), ((0, 9, -3),),
        ((0, 7, 0), (1, 7, 0)), ((0, 0, 0), (1, 5, 0), (2, 0, 0)), ((0, 0, 0), (3, 2, 2)),
        ((0, 9, -1), (5, 4, 0)), ((0, 5, 0), (1, 0, 0)), ((0, 1, 4), (1, 2, 4), (2, 3, 4), (3, 4, 1)),
        ((0, 4, 0), (4, 9, 0), (5, 4, 0)), ((0, 4, 0), (4, 9, 0), (6, 4, 0)), ((0, 0, 3), (2, 6, 3), (6, 0, -1)),
        ((0, 0, 1), (4, 4, 0), (8, 4, -1), (12, 0, 0)), ((0, 0, 5), (3, 2, 5), (6, 1, 5), (9, 0, 5)),
        ((0, 9, -2), (2, 9, -2), (4, 9, -2)), ((0, 3, 1), (1, 3, -1), (2, 3, 1), (3, 3, -1), (4, 3, 0)),
        ((0, 1, 0), (1, 2, 0), (2, 3, 0), (3, 4, 0), (4, 5, 0)), ((0, 6, -4), (2, -2, 3), (7, 5, 0), (8, 0, 1)),
        ((0, 5, -1), (6, 5, -2), (9, 5, 0)), ((0, -5, 1), (6, -5, 2), (9, -5, 0)),
    ]


def made(many, seed):
    """Pieces by chance, but always the same ones, small enough to go day by day."""
    chance = random.Random(seed)
    rows = []
    for _ in range(many):
        day, pieces = 0, []
        for _ in range(chance.randint(1, 6)):
            pieces.append((day, chance.randint(-8, 8), chance.choice((-3, -2, -1, 0, 0, 0, 1, 2, 3))))
            day += chance.choice((1, 1, 2, 2, 3, 5))
        rows.append(tuple(pieces))
    return rows


def made_far(many, seed):
    """Pieces by chance with days and numbers as great as can be."""
    chance = random.Random(seed)
    rows = []
    for _ in range(many):
        day, pieces = 0, []
        for _ in range(chance.randint(1, 6)):
            great = 10 ** chance.choice((1, 20, 39))
            steep = 10 ** chance.choice((0, 3, 18))
            pieces.append((day, chance.randint(-great, great), chance.randint(-steep, steep)))
            day += chance.choice((1, 2, chance.randint(3, 10 ** 6), chance.randint(3, 10 ** 21)))
        rows.append(tuple(pieces))
    return rows


def corners(*rows):
    """Days around those on which any of these pieces begin, and far behind them, ascending."""
    days = set()
    for pieces in rows:
        for first, *_ in pieces:
            days |= {first + by for by in range(-3, 4)}
        days |= {pieces[-1][0] + by for by in (10 ** 6, 10 ** 22, 10 ** 39)}
    ascending = sorted(day for day in days if day >= 0)
    middles = {(one + other) // 2 for one, other in zip(ascending, ascending[1:])}
    return sorted(middles | set(ascending))


def asked(day, first, rates, top, lost):
    """What is asked on a late day, counted late day by late day."""
    if lost is not None and day >= lost[0]:
        return lost[1]
    costs = []
    for late in range(1, day + 1):
        rate = [cost for cost, begin in rates if begin <= late]
        costs.append(rate[-1] if rate else 0)
    word, number = first or ("free", 0)
    if word == "free":
        costs[:number] = [0] * len(costs[:number])
    whole = 0 if word == "back" and day <= number else sum(costs)
    return whole if top is None else min(whole, top)


def parts_of(text):
    """The parts of a fine as asked takes them."""
    first, rates, top, lost = None, [], None, None
    for words in [part.split(" ") for part in text.split(", ") if part]:
        if words[0] in ("free", "back"):
            first = (words[0], int(words[1]))
        elif words[0] == "top":
            top = int(words[1])
        elif words[0] == "lost":
            lost = (int(words[1]), int(words[2]))
        else:
            rates.append((int(words[0]), int(words[2])))
    return first, rates, top, lost


class DayByDay:
    """A case of which each day is asked by itself, and all visits, rows and calendars of some days are gone through."""

    def __init__(self, text):
        self.kinds, self.after, self.mercies, self.told, self.known = (), {}, {}, {}, {}
        for line in text.split("\n"):
            word, name, *rest = line.split(" ")
            if word == "kinds":
                self.kinds = (name, *rest)
            elif word == "after":
                self.after[name] = rest
            elif word == "mercy":
                self.mercies[name] = rest
            else:
                self.told[name] = (rest[0], int(rest[1]), parts_of(" ".join(rest[2:])))
        self.things = tuple(self.told)
        self.after = {kind: [other for other in self.kinds if other in self.after.get(kind, [])] for kind in self.kinds}

    def number(self, thing, kind, day):
        if (thing, kind, day) not in self.known:
            word, by, parts = self.told[thing]
            number = asked(day + by if word == "late" else max(0, day - by), *parts)
            mercy, *many = self.mercies.get(kind, ["less", "0"])
            if mercy == "none":
                number = 0
            elif mercy == "top":
                number = min(number, int(many[0]))
            else:
                number = max(0, number - int(many[0]))
            self.known[thing, kind, day] = number
        return self.known[thing, kind, day]

    def pairs(self, days):
        """All two visits of some days of which the second one can follow the first one."""
        for one, other in itertools.product(itertools.product(range(days), self.kinds), repeat=2):
            if one == other or (one[0] < other[0] and other[1] in self.after[one[1]]):
                yield one, other

    def calendars(self, days, many=None):
        """All calendars of some days."""
        if many is None:
            many = len(self.things)
        rows = [((day, kind),) for day in range(days) for kind in self.kinds]
        for _ in range(many - 1):
            rows = [
                (*row, visit) for row in rows for visit in itertools.product(range(row[-1][0], days), self.kinds)
                if visit == row[-1] or (visit[0] > row[-1][0] and visit[1] in self.after[row[-1][1]])
            ]
        return rows

    def cost(self, row, calendar):
        return sum(self.number(thing, kind, day) for thing, (day, kind) in zip(row, calendar))

    def least(self, calendar):
        return min(self.cost(row, calendar) for row in itertools.permutations(self.things))

    def takes(self, habit, out, day, kind):
        word, *rest = habit.split(" ")
        if word == "row":
            return [thing for thing in rest if thing in out][0]
        scores = {
            "dearest": lambda thing: self.number(thing, kind, day),
            "cheapest": lambda thing: -self.number(thing, kind, day),
            "steepest": lambda thing: self.number(thing, kind, day + int(rest[0])) - self.number(thing, kind, day),
        }
        best = max(map(scores[word], out))
        return [thing for thing in self.things if thing in out and scores[word](thing) == best][0]

    def spent(self, habit, calendar):
        row = []
        for day, kind in calendar:
            row.append(self.takes(habit, [thing for thing in self.things if thing not in row], day, kind))
        return self.cost(row, calendar), tuple(row)

    def lost(self, habit, calendar):
        return self.spent(habit, calendar)[0] - self.least(calendar)

    def saved(self, thing, days):
        """The most that the second one of two visits asks less."""
        return max(self.number(thing, one[1], one[0]) - self.number(thing, its[1], its[0]) for one, its in self.pairs(days))

    def can_go_ahead(self, one, other, days):
        return all(self.cost((one, other), pair) <= self.cost((other, one), pair) for pair in self.pairs(days))

    def outs(self):
        """All things that can be out."""
        for many in range(1, len(self.things) + 1):
            yield from itertools.combinations(self.things, many)

    def most_lost(self, habit, days):
        """The most that is lost, day by day from the last one on: by what the habit and a row leave out."""
        known = {((), (), day, kind): 0 for day in range(days) for kind in self.kinds}
        for out, day in itertools.product(self.outs(), reversed(range(days))):
            for kind in self.kinds:
                taken = self.takes(habit, out, day, kind)
                rest = tuple(thing for thing in out if thing != taken)
                for left in itertools.combinations(self.things, len(out)):
                    rows = []
                    for thing in left:
                        others = tuple(one for one in left if one != thing)
                        then = [known[rest, others, day, kind]]
                        if day + 1 < days:
                            then += [known["from", rest, others, day + 1, other] for other in self.after[kind] if rest]
                        rows.append(max(then) - self.number(thing, kind, day))
                    known[out, left, day, kind] = max(rows) + self.number(taken, kind, day)
                    known["from", out, left, day, kind] = max(
                        known[out, left, day, kind], known.get(("from", out, left, day + 1, kind), -10 ** 9),
                    )
        return max(known["from", self.things, self.things, 0, kind] for kind in self.kinds)

    def most_led(self, habit, row, days):
        """The greatest sum of the leads of a calendar of some days, day by day from the last one on."""
        known = {}
        for out, day in itertools.product(self.outs(), reversed(range(days))):
            for kind in self.kinds:
                rest = tuple(thing for thing in out if thing != self.takes(habit, out, day, kind))
                then = [known.get((rest, day, kind), 0)]
                then += [known[rest, day + 1, other, "from"] for other in self.after[kind] if rest and day + 1 < days]
                known[out, day, kind] = max(then) + self.lead(habit, row, out, day, kind)
                known[out, day, kind, "from"] = max(
                    known[out, day, kind], known.get((out, day + 1, kind, "from"), -10 ** 9),
                )
        return max(known[self.things, 0, kind, "from"] for kind in self.kinds)

    def lead(self, habit, row, out, day, kind):
        """What is asked for what the habit takes, less what is asked for the thing in this place of the row."""
        return self.number(self.takes(habit, out, day, kind), kind, day) - self.number(row[len(row) - len(out)], kind, day)


def moved(calendar, number, days):
    """The calendar with this visit, and all behind it, so many days later."""
    return (*calendar[:number], *[(day + days, kind) for day, kind in calendar[number:]])


def made_after(chance, kinds):
    """Lines after by chance, with each kind that they must tell."""
    dense = chance.choice((0.15, 0.4, 0.9))
    found = {pair for pair in itertools.product(kinds, repeat=2) if chance.random() < dense}
    for middle, one, other in itertools.product(kinds, repeat=3):
        if (one, middle) in found and (middle, other) in found:
            found.add((one, other))
    lines = []
    for kind in chance.sample(kinds, len(kinds)):
        behind = [other for other in chance.sample(kinds, len(kinds)) if (kind, other) in found]
        if behind:
            lines.append(" ".join(["after", kind, *behind]))
    return lines


def made_fine(chance, capped):
    """The text of a small fine by chance; one that is capped does not rise without end."""
    parts, begin = [], 0
    if chance.random() < 0.5:
        parts.append(chance.choice(("free", "back")) + " " + str(chance.randint(0, 3)))
    for _ in range(chance.choice((0, 1, 1, 2, 2, 3))):
        begin += chance.randint(1, 2)
        parts.append(str(chance.randint(0, 4)) + " from " + str(begin))
    topped = chance.random() < (0.5 if capped else 0.1)
    if topped:
        parts.append("top " + str(chance.randint(0, 12)))
    if capped and not topped or chance.random() < 0.2:
        parts.append("lost " + str(chance.randint(1, 5)) + " " + str(chance.randint(0, 15)))
    return ", ".join(parts)


def made_case(chance, kinds, things):
    """The text of a small case by chance, with so many kinds and things."""
    names = chance.sample(["p", "q", "r", "s"], kinds)
    lines = [" ".join(["kinds", *names]), *made_after(chance, names)]
    for kind in chance.sample(names, kinds):
        mercy = chance.choice(("none", "top ", "less ", "", ""))
        if mercy:
            many = "" if mercy == "none" else str(chance.randint(0, 8))
            lines.append("mercy " + kind + " " + mercy + many)
    capped = chance.random() < 0.6
    for thing in chance.sample(["w", "x", "y", "z"], things):
        line = " ".join(["thing", thing, chance.choice(("due", "late")), str(chance.randint(0, 3))])
        text = made_fine(chance, capped)
        lines.append(line + " " + text if text else line)
    return "\n".join(lines)


def changed_lines(chance, text):
    """The text with other fines or mercies in some of its lines, small ones by chance."""
    lines = []
    for line in text.split("\n"):
        words = line.split(" ")
        if words[0] == "thing" and chance.random() < 0.5:
            fine = made_fine(chance, False)
            line = " ".join([*words[:2], chance.choice(("due", "late")), *words[3:4], *([fine] if fine else [])])
        elif words[0] == "mercy" and chance.random() < 0.5:
            line = " ".join([*words[:2], chance.choice(("top", "less")), str(chance.randint(0, 8))])
        lines.append(line)
    return "\n".join(lines)


def made_cases(many, seed):
    """Texts of small cases by chance, with one to four kinds and things, always the same ones."""
    chance = random.Random(seed)
    shapes = itertools.cycle(itertools.product((1, 2, 3, 4), repeat=2))
    return [made_case(chance, *shape) for shape in itertools.islice(shapes, many)]


def edge_cases():
    """Texts of cases at the edges that are told of."""
    return [
        "kinds p\nthing w due 0",
        "kinds p\nthing w due 0 2 from 1\nthing x due 1 3 from 1",
        "kinds p q\nafter p q\nthing w due 0 2 from 1\nthing x due 1 3 from 1",
        "kinds p q\nafter p q\nmercy q none\nthing w due 0 2 from 1\nthing x due 0 2 from 1, top 3",
        "kinds p q\nafter q p q\nmercy p top 4\nthing w due 0 2 from 1, top 9\nthing x late 3 1 from 1, lost 6 2",
        "kinds p\nafter p p\nthing w due 0 2 from 1, top 9\nthing x due 0 2 from 1, top 9\nthing y due 0 2 from 1, top 9",
        "kinds p\nafter p p\nthing w due 0 1 from 1\nthing x due 0 2 from 1\nthing y late 1 3 from 1",
        "kinds p q r\nafter p q r\nafter q r\nmercy q less 3\nmercy r none\nthing w due 2 3 from 1\nthing x due 0 1 from 1",
        "kinds p q r s\nafter p s\nafter q p r s\nafter r s\nmercy s none\nthing w late 4 3 from 2, lost 7 1\nthing x due 3",
        "kinds p q\nafter p p\nafter q q\nmercy q less 2\nthing w due 4 back 2, 3 from 1, lost 5 1\nthing x due 1 1 from 1",
        "kinds p\nafter p p\nthing w due 1 4 from 1, lost 4 3\nthing x due 1 3 from 1, lost 3 8\nthing y due 6 lost 1 5",
        "kinds p q\nafter p p q\nafter q p q\nmercy q none\nthing w due 0 5 from 1, top 5\nthing x due 0 1 from 1",
    ]


def habits_of(case):
    """Habits of each kind."""
    names = list(case.things)
    rows = {" ".join(["row", *row]) for row in (names, names[::-1], names[1:] + names[:1])}
    return ["dearest", "cheapest", "steepest 1", "steepest 4", *sorted(rows)]


def later_due(text, days):
    """The text with each thing, all of them due, so many days later due."""
    lines = []
    for line in text.split("\n"):
        words = line.split(" ")
        if words[0] == "thing":
            words[2:4] = ["due", str(int(words[3]) + days)]
        lines.append(" ".join(words))
    return "\n".join(lines)


def left_out(text):
    """All texts of cases that come if a kind is left out of a line after."""
    found = []
    lines = text.split("\n")
    for at, line in enumerate(lines):
        words = line.split(" ")
        if words[0] == "after":
            for number in range(2, len(words)):
                rest = words[:number] + words[number + 1:]
                other = lines[:at] + ([" ".join(rest)] if len(rest) > 2 else []) + lines[at + 1:]
                try:
                    found.append(Case("\n".join(other)).text)
                except ValueError:
                    pass
    return found


def renamed(text):
    """The text with other names."""
    lines = []
    for line in text.split("\n"):
        words = line.split(" ")
        names = 2 if words[0] in ("mercy", "thing") else len(words)
        lines.append(" ".join([words[0], *[RENAMED[word] for word in words[1:names]], *words[names:]]))
    return "\n".join(lines)


def priced(text, times):
    """The text with all prices, and all that mercies tell, so many times as much."""
    lines = []
    for line in text.split("\n"):
        words = line.split(" ")
        if words[0] == "mercy" and len(words) == 4:
            words[3] = str(int(words[3]) * times)
        if words[0] == "thing" and len(words) > 4:
            parts = []
            for part in " ".join(words[4:]).split(", "):
                row = part.split(" ")
                at = {"free": None, "back": None, "top": 1, "lost": 2}.get(row[0], 0)
                if at is not None:
                    row[at] = str(int(row[at]) * times)
                parts.append(" ".join(row))
            words[4:] = [", ".join(parts)]
        lines.append(" ".join(words))
    return "\n".join(lines)
