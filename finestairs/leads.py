"""Leads: how much more than any other row a habit can cost, from a visit on."""

from finestairs.calendars import some_of, without
from finestairs.shapes import first_with, level, pieced


class Leads:
    """What a habit costs more, at the most, than rows cost by the same calendars.

    A key is of a visit: (things that the habit has left out, things that a row has left out, kind). By it are kept
    Stairs that tell on each day the greatest number, for a visit on this day, by which the habit can cost more
    from there on. On days on which the habit cannot come to this they are 0, and no number goes by them.
    """

    def __init__(self, case, ways):
        self._case = case
        self._ways = ways
        # From this visit on.
        self._from = {}
        # Behind this visit, on which the habit and the row have left these things already.
        self._behind = {}
        # The same, but with what the row costs on this visit, on which it has not left its thing yet.
        self._rests = {}
        # From any visit like this one on a later day on.
        self._later = {}
        # The key from which on there is no greatest number, with any day behind the visits ahead; or None.
        self._rising = None
        for many in range(1, len(case) + 1):
            if self._rising is None:
                self._fill(many)

    def told(self):
        """What a habit loses, as it is told."""
        things = self._case.things
        if self._rising is not None:
            return self._endless()
        tops = [(self._from[things, things, kind].top, kind) for kind in self._case.kinds]
        most = max([top for top, _ in tops])
        kind = [its for top, its in tops if top == most][0]
        day = first_with(self._from[things, things, kind], most, 0)
        return ("most", most, tuple(self._visits((things, things, kind), day)))

    def _fill(self, many):
        """All numbers with so many things being out; ends where there is no greatest one."""
        for out, kind in self._ways.places(many):
            for left in some_of(self._case.things, many):
                key = (out, left, kind)
                self._from[key] = self._number(key)
                if self._ways.is_free(out, kind) and self._from[key].top is None:
                    self._rising = key
                    return

    def _number(self, key):
        """The numbers from a visit on."""
        out, left, kind = key
        parts = []
        for thing, days in self._ways.takes(out, kind):
            asked = self._case.bill(thing, kind) + self._rest((without(out, thing), left, kind))
            parts.extend([(stretch, asked) for stretch in days.days_of(1)])
        return pieced(parts)

    def _rest(self, key):
        """The numbers behind a visit, with what the row costs on it, by any row."""
        if key not in self._rests:
            out, left, kind = key
            rows = [self._follow((out, without(left, one), kind)) - self._case.bill(one, kind) for one in left]
            self._rests[key] = _greatest(rows)
        return self._rests[key]

    def _follow(self, key):
        """The numbers behind a visit, from one on the same day or on a later one on."""
        out, left, kind = key
        if len(out) == 0:
            return level(0)
        if key not in self._behind:
            rows = [self._from[key], *[self._come((out, left, behind)) for behind in self._case.after(kind)]]
            self._behind[key] = _greatest(rows)
        return self._behind[key]

    def _come(self, key):
        """The greatest numbers of all later days."""
        if key not in self._later:
            self._later[key] = self._from[key].from_here.moved(1)
        return self._later[key]

    def _visits(self, key, day):
        """Visits from this one on that have its number."""
        out, left, kind = key
        visits = [(day, kind)]
        while len(out) > 1:
            out = without(out, self._ways.takes_on(out, kind, day))
            left = self._leave((out, left, kind), day)
            day, kind = self._visit((out, left, kind), day)
            visits.append((day, kind))
        return visits

    def _leave(self, key, day):
        """What a row with the greatest number leaves out on a visit on this day."""
        out, left, kind = key
        number = self._rest(key)[day]
        rests = [without(left, one) for one in left]
        asked = [self._case.bill(one, kind)[day] for one in left]
        found = [rest for rest, less in zip(rests, asked) if self._follow((out, rest, kind))[day] - less == number]
        return found[0]

    def _visit(self, key, day):
        """The visit that comes behind one on this day."""
        out, left, kind = key
        number = self._follow(key)[day]
        if self._from[key][day] == number:
            return day, kind
        found = [behind for behind in self._case.after(kind) if self._come((out, left, behind))[day] == number]
        return first_with(self._from[out, left, found[0]], number, day + 1), found[0]

    def _endless(self):
        """A calendar that can be moved on from a visit, and loses more and more, as it is told."""
        out, _, kind = self._rising
        visits = self._ways.visits_ahead(out, kind)
        first, number, _ = self._from[self._rising].pieces[-1]
        # The visits ahead may have cost the habit less than the row, by no more than all that is asked on them.
        owed = sum([self._case.bill(one, its)[day] for day, its in visits for one in self._case.things])
        # From a day on which all is straight, the visits behind can be moved on as they are: what they lose grows
        # with each day as the number does, as from no day on they can lose more than it.
        day = max([first + max(0, owed - number), self._straight(), *[day for day, _ in visits]]) + 1
        return ("endless", (*visits, *self._visits(self._rising, day)), len(visits))

    def _straight(self):
        """A day from which on all bills are straight, and the same things are taken."""
        bills = [self._case.bill(one, kind) for one in self._case.things for kind in self._case.kinds]
        return max([stairs.pieces[-1][0] for stairs in [*bills, *self._ways.marks()]])


def _greatest(rows):
    """On each day the greatest number of all these Stairs."""
    most = rows[0]
    for stairs in rows[1:]:
        most = most | stairs
    return most
