"""Ways: which things can be out on which visits, if things are taken by a habit, and which one is taken then."""

from finestairs.calendars import without
from finestairs.scores import scores_of, taken_when, words_of
from finestairs.shapes import days_from, level


class Ways:
    """What a habit takes on which visits of calendars; BadHabit for any value that is no habit."""

    def __init__(self, case, habit):
        self._case = case
        self._words = words_of(case, habit)
        # By things that are out and kind: marks of the days on which this can be so.
        self._days = {(case.things, kind): level(1) for kind in case.kinds}
        # Likewise: the things that are taken then, each with marks of the days.
        self._takes = {}
        # Likewise: what was out on a visit ahead, on the same day with marks of these days, or on an earlier
        # one with its kind and the first one of its days.
        self._same = {}
        self._earlier = {}
        self._layers = [[case.things]]
        while len(self._layers) < len(case):
            self._layers.append(self._leave(self._layers[-1]))
        self._leave(self._layers[-1])

    def places(self, many):
        """All (out, kind) that can be, so many things being out."""
        layer = self._layers[len(self._case) - many]
        return [(out, kind) for out in layer for kind in self._case.kinds if (out, kind) in self._days]

    def days(self, out, kind):
        """Marks of the days on which these things can be out on visits of this kind."""
        return self._days[out, kind]

    def takes(self, out, kind):
        """The things that are taken of these on visits of this kind, each with marks of the days."""
        return self._takes[out, kind]

    def takes_on(self, out, kind, day):
        """The thing that is taken of these on this visit."""
        return [thing for thing, days in self._takes[out, kind] if days[day] == 1][0]

    def marks(self):
        """Marks of all days on which any thing is taken of any others."""
        return [days for rows in list(self._takes.values()) for _, days in rows]

    def is_free(self, out, kind):
        """Whether any day, or any one behind a visit ahead, can be that of a visit of this kind with these out."""
        return out == self._case.things or (out, kind) in self._earlier

    def visits_ahead(self, out, kind):
        """Visits behind which these things are out, and any day of this kind can come."""
        if out == self._case.things:
            return []
        before, its, day = self._earlier[out, kind][0]
        return self._visits_to(before, its, day)

    def _visits_to(self, out, kind, day):
        """Visits of which this one is the last, with these things being out on it."""
        if out == self._case.things:
            return [(day, kind)]
        for before, days in self._same.get((out, kind), []):
            if days[day] == 1:
                return [*self._visits_to(before, kind, day), (day, kind)]
        before, its, first = [row for row in self._earlier[out, kind] if row[2] < day][0]
        return [*self._visits_to(before, its, first), (day, kind)]

    def _leave(self, outs):
        """Takes each thing that is taken of these; returns what can be out then."""
        rests = {}
        for out in outs:
            for kind in self._case.kinds:
                if (out, kind) in self._days:
                    for thing, days in self._take(out, kind):
                        rest = without(out, thing)
                        self._come(out, rest, kind, days)
                        rests[rest] = True
        return list(rests)

    def _take(self, out, kind):
        """The things that are taken of these, each with marks of the days."""
        days = self._days[out, kind]
        scores = scores_of(self._case, self._words, out, kind)
        found = [(thing, when & days) for thing, when in taken_when(scores)]
        self._takes[out, kind] = [row for row in found if row[1].top == 1]
        return self._takes[out, kind]

    def _come(self, out, rest, kind, days):
        """Lets the rest be out on all visits that can follow these."""
        first = days.days_of(1)[0][0]
        self._same.setdefault((rest, kind), []).append((out, days))
        self._let(rest, kind, days)
        for behind in self._case.after(kind):
            self._earlier.setdefault((rest, behind), []).append((out, kind, first))
            self._let(rest, behind, days_from(first + 1))

    def _let(self, out, kind, days):
        """Lets these things be out on these days, too."""
        ahead = self._days.get((out, kind))
        self._days[out, kind] = days if ahead is None else ahead | days
