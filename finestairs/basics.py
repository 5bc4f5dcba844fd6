"""What the other files share: integers, how they are written, and pieces.

Pieces are tuples (day, value, rate), their days ascending from 0: from its day until the day
ahead of the next one's, the last one without end, a piece has on a day the number
value + rate * (that day - its day).
"""

# Python's own str and int refuse integers of some thousand figures, but such ones can be told:
# so integers are written and read by so many figures at once.
FIGURES = 64
SPLIT = 10 ** 64


def is_whole(value):
    """Whether any value is an integer."""
    return isinstance(value, int) and not isinstance(value, bool)


def is_day(value):
    """Whether any value is a day."""
    return is_whole(value) and value >= 0


def written(number):
    """The integer as Python writes it, however long that is."""
    if number < 0:
        return "-" + written(-number)
    parts = []
    rest = number
    while rest >= SPLIT:
        rest, part = divmod(rest, SPLIT)
        parts.append(str(part).zfill(FIGURES))
    parts.append(str(rest))
    return "".join(parts[::-1])


def number_of(word):
    """The integer from 0 on that Python writes as this word; None if there is none."""
    if not word.isascii() or not word.isdigit():
        return None
    if word != "0" and word.startswith("0"):
        return None
    head = len(word) % FIGURES
    number = int("0" + word[:head])
    for at in range(head, len(word), FIGURES):
        number = number * SPLIT + int(word[at:at + FIGURES])
    return number


def whole_of(word):
    """The integer that Python writes as this word; None if there is none."""
    if not word.startswith("-"):
        return number_of(word)
    number = number_of(word[1:])
    return -number if number else None


def written_pieces(pieces):
    """The text of pieces."""
    return ", ".join([" ".join([written(number) for number in piece]) for piece in pieces])


def pieces_of(text):
    """The pieces with this text; where it is none of pieces, something that is no pieces."""
    parts = text.split(", ")
    return tuple([tuple([whole_of(word) for word in part.split(" ")]) for part in parts])


def _is_piece(value):
    """Whether any value is a piece, if its day may be any integer."""
    return isinstance(value, tuple) and len(value) == 3 and all([is_whole(part) for part in value])


def are_pieces(value):
    """Whether any value is pieces."""
    if not isinstance(value, tuple) or len(value) == 0:
        return False
    if not all([_is_piece(piece) for piece in value]):
        return False
    return value[0][0] == 0 and all([one[0] < other[0] for one, other in zip(value, value[1:])])


def number_on(piece, day):
    """The number that this piece has on a day."""
    first, value, rate = piece
    return value + rate * (day - first)


def last_days(pieces):
    """For each piece its last day, None for the last one."""
    return [piece[0] - 1 for piece in pieces[1:]] + [None]


def piece_on(pieces, day):
    """The piece to which a day belongs."""
    low = 0
    high = len(pieces)
    while high - low > 1:
        middle = (low + high) // 2
        if pieces[middle][0] <= day:
            low = middle
        else:
            high = middle
    return pieces[low]


def in_one_way(pieces):
    """The same numbers, each piece going as far as they are straight, two days at least."""
    told = []
    # Whether the last piece told has one day only: it goes on to any number then.
    alone = False
    for piece, last in zip(pieces, last_days(pieces)):
        day, value, rate = piece
        start = day
        if alone or (told and number_on(told[-1], day) == value):
            first, number, slope = told.pop()
            if alone:
                slope = value - number
            told.append((first, number, slope))
            alone = False
            if last == day or rate == slope:
                continue
            start = day + 1
        told.append((start, number_on(piece, start), rate))
        alone = last == start
    return tuple(told)


def _cut(pieces, days):
    """The same numbers, a piece from each of these days on, which hold those of the pieces."""
    rows = []
    at = 0
    for day in days:
        if at + 1 < len(pieces) and pieces[at + 1][0] == day:
            at += 1
        rows.append((day, number_on(pieces[at], day), pieces[at][2]))
    return rows


def added(ones, others):
    """On each day the sum of both numbers."""
    days = sorted(set([piece[0] for piece in ones] + [piece[0] for piece in others]))
    return tuple([
        (one[0], one[1] + other[1], one[2] + other[2])
        for one, other in zip(_cut(ones, days), _cut(others, days))
    ])


def times(pieces, many):
    """On each day so many times the number."""
    return tuple([(day, value * many, rate * many) for day, value, rate in pieces])


def less(ones, others):
    """On each day the number of ones less that of others."""
    return added(ones, times(others, -1))


def _raised(piece, last, least):
    """As a list of pieces: on each day of this one its number, or least where it is below."""
    day, value, rate = piece
    if rate == 0:
        return [(day, max(value, least), 0)]
    if rate > 0:
        turn = day + max(0, -((value - least) // rate))
        ahead, behind = (day, least, 0), (turn, number_on(piece, turn), rate)
    else:
        turn = day + max(0, (value - least) // -rate + 1)
        ahead, behind = piece, (turn, least, 0)
    rows = []
    if turn > day:
        rows.append(ahead)
    if last is None or turn <= last:
        rows.append(behind)
    return rows


def greater(ones, others):
    """On each day the greater one of both numbers."""
    over = less(ones, others)
    rows = []
    for piece, last in zip(over, last_days(over)):
        rows.extend(_raised(piece, last, 0))
    return added(others, rows)


def greatest(pieces):
    """The greatest number of all days; None if there is none."""
    if pieces[-1][2] > 0:
        return None
    ends = [number_on(one, other[0] - 1) for one, other in zip(pieces, pieces[1:])]
    return max([piece[1] for piece in pieces] + ends)


def greatest_so_far(pieces):
    """On each day the greatest number of this day and all ahead of it."""
    most = pieces[0][1]
    rows = []
    for piece, last in zip(pieces, last_days(pieces)):
        day, value, rate = piece
        most = max(most, value)
        if rate > 0:
            rows.extend(_raised(piece, last, most))
            most = most if last is None else max(most, number_on(piece, last))
        else:
            rows.append((day, most, 0))
    return tuple(rows)


def greatest_from_here(pieces):
    """On each day the greatest number of this day and all behind it, if the end does not rise."""
    parts = [[pieces[-1]]]
    most = pieces[-1][1]
    for at in range(len(pieces) - 2, -1, -1):
        day, value, rate = pieces[at]
        last = pieces[at + 1][0] - 1
        if rate < 0:
            parts.append(_raised(pieces[at], last, most))
            most = max(most, value)
        else:
            most = max(most, number_on(pieces[at], last))
            parts.append([(day, most, 0)])
    return tuple([piece for part in parts[::-1] for piece in part])


def first_below(pieces):
    """The first day on which the number is below 0; None if there is none."""
    for piece, last in zip(pieces, last_days(pieces)):
        day, value, rate = piece
        if value < 0:
            return day
        if rate < 0:
            turn = day + value // -rate + 1
            if last is None or turn <= last:
                return turn
    return None


def _days_in(piece, last, number):
    """The stretch of the days of this piece that have a number; None if there are none."""
    day, value, rate = piece
    if rate == 0:
        return (day, last) if value == number else None
    steps, rest = divmod(number - value, rate)
    there = day + steps
    if rest != 0 or steps < 0 or (last is not None and there > last):
        return None
    return (there, there)


def days_with(pieces, number):
    """All days that have a number, as stretches, as few as can be."""
    stretches = []
    for piece, last in zip(pieces, last_days(pieces)):
        found = _days_in(piece, last, number)
        if found is not None:
            first, end = found
            if stretches and stretches[-1][1] == first - 1:
                first = stretches.pop()[0]
            stretches.append((first, end))
    return tuple(stretches)
