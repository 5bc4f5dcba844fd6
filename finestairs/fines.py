"""Fines by late days: what a thing costs, read from a text."""

from finestairs.basics import number_of
from finestairs.errors import BadFine
from finestairs.shapes import level
from finestairs.stairs import Stairs

# In which place of the text the parts stand, and how many of them there can be in each place.
PLACES = {"free": 0, "back": 0, "from": 1, "top": 2, "lost": 3}
MOST = (1, 4, 1, 1)


def fine(text):
    """The Stairs of what a thing costs by late days."""
    if not isinstance(text, str):
        raise BadFine(text)
    parts = [_part(part) for part in text.split(", ")] if text != "" else []
    if None in parts or not _in_sequence(parts):
        raise BadFine(text)
    asked = _summed([part for part in parts if part[0] == "from"])
    for part in parts:
        asked = _changed(asked, part)
    return asked


def _part(text):
    """A part as a tuple: its word, its numbers (a day ahead of others); None if it is none."""
    words = text.split(" ")
    if len(words) == 2 and words[0] in ("free", "back", "top"):
        word, numbers = words[0], words[1:]
    elif len(words) == 3 and words[0] == "lost":
        word, numbers = words[0], words[1:]
    elif len(words) == 3 and words[1] == "from":
        word, numbers = words[1], [words[2], words[0]]
    else:
        return None
    numbers = [number_of(number) for number in numbers]
    return None if None in numbers else (word, *numbers)


def _in_sequence(parts):
    """Whether the parts stand as they may, no more of them than there can be."""
    places = [PLACES[part[0]] for part in parts]
    if places != sorted(places):
        return False
    if any([places.count(place) > MOST[place] for place in places]):
        return False
    days = [part[1] for part in parts if part[0] == "from"]
    if days != sorted(set(days)):
        return False
    return all([part[1] > 0 for part in parts if part[0] in ("from", "lost")])


def _summed(parts):
    """What all late days cost in all, by the parts that tell what one costs."""
    pieces = [(0, 0, 0)]
    for _, first, cost in parts:
        day, value, rate = pieces[-1]
        pieces.append((first, value + rate * (first - 1 - day) + cost, cost))
    return Stairs(tuple(pieces))


def _changed(asked, part):
    """What is asked with one more part."""
    word, number = part[:2]
    if word == "free":
        # No late day costs less than nothing, so ahead of the end of these days there is less.
        return (asked - level(asked[number])) | level(0)
    if word == "back":
        return _from_day(level(0), number + 1, asked)
    if word == "top":
        return asked & level(number)
    if word == "lost":
        return _from_day(asked, number, level(part[2]))
    return asked


def _from_day(ahead, day, behind):
    """The numbers of one, from a day above 0 on those of another."""
    first = [piece for piece in ahead.pieces if piece[0] < day]
    then = [(start + day, value, rate) for start, value, rate in behind.moved(day).pieces]
    return Stairs((*first, *then))
