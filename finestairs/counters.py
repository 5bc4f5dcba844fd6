"""Counters: somebody comes to the house, and brings things; deeds are undone, tried, and read back."""

from finestairs.basics import written
from finestairs.calendars import can_follow, is_visit, without
from finestairs.cases import same_names
from finestairs.deeds import deed_of, do, words_in
from finestairs.errors import BadCase, BadJournal, BadVisit, Empty, FineError, NoTrial, NotCome, NotOut
from finestairs.errors import NothingToRedo, NothingToUndo
from finestairs.habits import taken
from finestairs.scores import words_of


class Counter:
    """Somebody who comes to the house, at first with all things being out."""

    def __init__(self, case):
        # All lines, also those of deeds that were taken back; what it came to ahead of the first one of these and
        # behind each one, as (case, visit, out, paid); and how many of them stand. Nothing in it ever changes,
        # so it is all that a trial must keep.
        self._track = ((), ((case, None, case.things, 0),), 0)
        self._first = case
        # The innermost block in which it is tried.
        self._block = None

    @property
    def case(self):
        """The case of now."""
        return self._now()[0]

    @property
    def first(self):
        """The case with which it began."""
        return self._first

    @property
    def visit(self):
        """The last visit; None if nobody came."""
        return self._now()[1]

    @property
    def out(self):
        """The things that are out, in sequence."""
        return self._now()[2]

    @property
    def paid(self):
        """What was asked in all."""
        return self._now()[3]

    @property
    def done(self):
        """How many deeds stand."""
        return self._track[2]

    @property
    def journal(self):
        """The lines of all deeds that stand, in sequence."""
        lines, _, many = self._track
        return lines[:many]

    def __len__(self):
        return len(self.out)

    def __contains__(self, value):
        return isinstance(value, str) and value in self.out

    def __eq__(self, other):
        return isinstance(other, Counter) and self.journal == other.journal and self._first == other._first

    def come(self, day, kind):
        """A visit that can follow the last one."""
        case, visit, out, paid = self._now()
        other = (day, kind)
        if not is_visit(case, other) or (visit is not None and not can_follow(case, visit, other)):
            raise BadVisit(other)
        self._do(f"come {written(day)} {kind}", (case, other, out, paid))

    def bring(self, thing):
        """Brings a thing on the last visit: what is asked for it is paid."""
        case, visit, out, paid = self._now()
        if thing not in self:
            raise NotOut(thing)
        if visit is None:
            raise NotCome(None)
        day, kind = visit
        self._do(f"bring {thing}", (case, visit, without(out, thing), paid + case.bill(thing, kind)[day]))

    def bring_by(self, habit):
        """Brings the thing that a habit takes, and returns its name."""
        case, visit, out, _ = self._now()
        words_of(case, habit)
        if len(out) == 0:
            raise Empty(None)
        if visit is None:
            raise NotCome(None)
        thing = taken(case, habit, out, visit)
        self.bring(thing)
        return thing

    def change(self, number, line):
        """Another line of the case in the place of that with this number."""
        case, visit, out, paid = self._now()
        other = case.told(number, line)
        if not same_names(case, other):
            raise BadCase(number)
        self._do(f"change {written(number)} {line}", (other, visit, out, paid))

    def undo(self):
        """Takes the last deed back that stands."""
        lines, states, many = self._track
        if many == 0:
            raise NothingToUndo(None)
        self._track = (lines, states, many - 1)

    def redo(self):
        """Does the deed again that was taken back last."""
        lines, states, many = self._track
        if many == len(lines):
            raise NothingToRedo(None)
        self._track = (lines, states, many + 1)

    def trial(self):
        """What a block is entered by, behind which all is as it was ahead of it, unless it is kept."""
        return Trial(self)

    def keep(self):
        """Keeps what is done in the innermost block."""
        if self._block is None:
            raise NoTrial(None)
        self._block.hold()

    def tried(self, look, *, keep=False):
        """What a function returns that is called with the counter within a block."""
        block = self.trial()
        with block as held:
            told = look(held)
            if keep is True:
                block.hold()
        return told

    def copy(self):
        """An independent counter, alike in all things, outside of all blocks."""
        other = Counter(self._first)
        other._track = self._track
        return other

    def _now(self):
        """The case, the last visit, the things that are out and what was paid."""
        _, states, many = self._track
        return states[many]

    def _do(self, line, state):
        """A deed that leads to this, in the place of all that were taken back."""
        lines, states, many = self._track
        self._track = ((*lines[:many], line), (*states[:many + 1], state), many + 1)


class Trial:
    """A block of which nothing is left behind it, unless it is kept and no error leaves it."""

    def __init__(self, counter):
        self._counter = counter
        # None unless it is kept: what __exit__ asks for must be plain.
        self._kept = None
        # What was ahead of the block, and the block around it.
        self._ahead = None
        self._around = None

    def __enter__(self):
        counter = self._counter
        self._ahead = counter._track
        self._around = counter._block
        counter._block = self
        return counter

    def __exit__(self, kind, value, trace):
        counter = self._counter
        if kind is not None or self._kept is None:
            counter._track = self._ahead
        counter._block = self._around

    def hold(self):
        """Lets all stand that was done in the block."""
        self._kept = True


def read_counter(case, lines):
    """The counter in which the deeds of a journal were done."""
    if not isinstance(lines, tuple):
        raise BadJournal(0)
    counter = Counter(case)
    for number, line in enumerate(lines, start=1):
        if not _is_done(counter, line):
            raise BadJournal(number)
    return counter


def _is_done(counter, line):
    """Does what any value tells, if it is a line of a journal, and is not refused; whether it was."""
    deed = deed_of(words_in(line))
    if deed is None:
        return False
    try:
        do(counter, deed)
    except FineError:
        return False
    return True
