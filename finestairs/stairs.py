"""Stairs: a number for each day, straight between a few corners, with jumps up and down."""

from finestairs.basics import added, are_pieces, days_with, first_below, greater, greatest
from finestairs.basics import greatest_from_here, greatest_so_far, in_one_way, is_day, is_whole
from finestairs.basics import less, number_on, piece_on, pieces_of, times, written_pieces
from finestairs.errors import BadDay, BadNumber, BadPieces, BadText, Endless


class Stairs:
    """A number for each day 0, 1, 2 and so on without end."""

    def __init__(self, pieces):
        if not are_pieces(pieces):
            raise BadPieces(pieces)
        self._pieces = in_one_way(pieces)

    @property
    def pieces(self):
        """The pieces, told in one way: Stairs with the same numbers have the same ones."""
        return self._pieces

    @property
    def text(self):
        """The pieces as a text."""
        return written_pieces(self._pieces)

    @staticmethod
    def of(text):
        """The Stairs that have this text."""
        pieces = pieces_of(text) if isinstance(text, str) else None
        if not are_pieces(pieces):
            raise BadText(text)
        stairs = Stairs(pieces)
        # Pieces that are told in another way have no Stairs whose text this would be.
        if stairs.pieces != pieces:
            raise BadText(text)
        return stairs

    def __getitem__(self, day):
        if not is_day(day):
            raise BadDay(day)
        return number_on(piece_on(self._pieces, day), day)

    def __iter__(self):
        # Without this, Python would go over the days, and never come to an end.
        raise TypeError("the days of stairs have no end")

    def __len__(self):
        return len(self._pieces)

    def __repr__(self):
        return f"Stairs.of('{self.text}')"

    def __eq__(self, other):
        return isinstance(other, Stairs) and self._pieces == other._pieces

    def __add__(self, other):
        if not isinstance(other, Stairs):
            return NotImplemented
        return Stairs(added(self._pieces, other._pieces))

    def __sub__(self, other):
        if not isinstance(other, Stairs):
            return NotImplemented
        return Stairs(less(self._pieces, other._pieces))

    def __neg__(self):
        return Stairs(times(self._pieces, -1))

    def __mul__(self, other):
        if not is_whole(other):
            return NotImplemented
        return Stairs(times(self._pieces, other))

    def __rmul__(self, other):
        if not is_whole(other):
            return NotImplemented
        return Stairs(times(self._pieces, other))

    def __or__(self, other):
        if not isinstance(other, Stairs):
            return NotImplemented
        return Stairs(greater(self._pieces, other._pieces))

    def __and__(self, other):
        if not isinstance(other, Stairs):
            return NotImplemented
        return -(-self | -other)

    def moved(self, days):
        """On each day the number of so many days later."""
        if not is_day(days):
            raise BadDay(days)
        day, value, rate = piece_on(self._pieces, days)
        behind = [(piece[0] - days, piece[1], piece[2]) for piece in self._pieces if piece[0] > days]
        return Stairs(((0, value + rate * (days - day), rate), *behind))

    def held(self, days):
        """On each day the number of so many days earlier; ahead of that, the number of day 0."""
        if not is_day(days):
            raise BadDay(days)
        if days == 0:
            return Stairs(self._pieces)
        later = [(day + days, value, rate) for day, value, rate in self._pieces]
        return Stairs(((0, self._pieces[0][1], 0), *later))

    @property
    def top(self):
        """The greatest number of all days; None if there is none."""
        return greatest(self._pieces)

    @property
    def bottom(self):
        """The least number of all days; None if there is none."""
        most = greatest(times(self._pieces, -1))
        return None if most is None else -most

    @property
    def so_far(self):
        """On each day the greatest number of this day and all ahead of it."""
        return Stairs(greatest_so_far(self._pieces))

    @property
    def from_here(self):
        """On each day the greatest number of this day and all behind it."""
        if greatest(self._pieces) is None:
            raise Endless(None)
        return Stairs(greatest_from_here(self._pieces))

    def nowhere_above(self, other):
        """Whether this one is on no day greater than other."""
        if not isinstance(other, Stairs):
            raise TypeError("other is no Stairs")
        return first_below(less(other._pieces, self._pieces)) is None

    def first_less(self, other):
        """The first day on which this one is less than other; None if there is none."""
        if not isinstance(other, Stairs):
            raise TypeError("other is no Stairs")
        return first_below(less(self._pieces, other._pieces))

    def days_of(self, number):
        """All days that have this number, as stretches, as few as can be."""
        if not is_whole(number):
            raise BadNumber(number)
        return days_with(self._pieces, number)
