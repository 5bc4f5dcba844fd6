"""All errors of the program. Each one keeps what it is about as `value`."""


class FineError(ValueError):
    """What all errors of the program are."""

    def __init__(self, value):
        self.value = value


class BadPieces(FineError):
    """The value is no pieces."""


class BadDay(FineError):
    """The value is no day."""


class BadText(FineError):
    """The value is the text of no Stairs."""


class Endless(FineError):
    """There is no greatest number; the value is what that is so for."""


class BadNumber(FineError):
    """The value is no integer."""


class BadFine(FineError):
    """The value is no text of a fine."""


class BadCase(FineError):
    """The value is the number of the line that cannot stand in the text of a case."""


class NoKind(FineError):
    """The value is no kind of the case."""


class NoThing(FineError):
    """The value is no thing of the case."""


class NoLine(FineError):
    """The value is the number of no line of the case."""


class BadRow(FineError):
    """The value is no row of the case."""


class BadCalendar(FineError):
    """The value is no calendar of the case."""


class BadHabit(FineError):
    """The value is no habit of the case."""


class BadOut(FineError):
    """The value is no things that can be out."""


class BadVisit(FineError):
    """The value is no visit that can be."""


class OtherCase(FineError):
    """The value is no Case with the same kinds and things."""


class BadOffers(FineError):
    """The value is no offers for the case."""


class BadWishes(FineError):
    """The value is no wishes for the case."""


class BadSeen(FineError):
    """The value is nothing that can have been seen of the case."""


class NeverSo(FineError):
    """The value is the number of the first thing seen with which no days fit."""


class CannotCome(FineError):
    """The value is a kind of which no visit can follow."""


class NotOut(FineError):
    """The value is no thing that is out."""


class NotCome(FineError):
    """Nobody came; the value is None."""


class Empty(FineError):
    """Nothing is out; the value is None."""


class NothingToUndo(FineError):
    """No deed stands that can be taken back; the value is None."""


class NothingToRedo(FineError):
    """No deed can be done again; the value is None."""


class NoTrial(FineError):
    """There is no block of a trial around; the value is None."""


class BadJournal(FineError):
    """The value is the number of the first line that cannot be done."""


class BadSay(FineError):
    """The value is nothing that can be said at a desk."""
