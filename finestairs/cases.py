"""Cases: kinds of days, what can come behind what, what is asked less, and the things that are out."""

from finestairs.basics import is_whole, number_of
from finestairs.errors import BadCase, BadFine, NoKind, NoLine, NoThing
from finestairs.fines import fine
from finestairs.shapes import level

# In which place of the text the lines stand that begin with these words.
PLACES = {"kinds": 0, "after": 1, "mercy": 2, "thing": 3}
# No more kinds, and no more things, than that.
MOST = 4
# No more letters in a name.
LONGEST = 8


class Case:
    """What can be on which days, and what is asked for which things."""

    def __init__(self, text):
        if not isinstance(text, str):
            raise BadCase(0)
        lines = _read_lines(text.split("\n"))
        kinds = lines[0][2]
        behind = _told_of(lines, "after")
        self._text = text
        self._kinds = kinds
        self._things = tuple([line[1] for line in lines if line[0] == "thing"])
        self._after = {kind: tuple([other for other in kinds if other in behind.get(kind, ())]) for kind in kinds}
        self._bills = _bills(kinds, _told_of(lines, "mercy"), _told_of(lines, "thing"))

    @property
    def text(self):
        """The text of which it was made."""
        return self._text

    @property
    def kinds(self):
        """The kinds of days, in sequence."""
        return self._kinds

    @property
    def things(self):
        """The names of the things that are out, in sequence."""
        return self._things

    def after(self, kind):
        """The kinds of which days can come behind days of this one."""
        self._check_kind(kind)
        return self._after[kind]

    def bill(self, thing, kind):
        """What is asked for a thing on each day, if this day is of this kind."""
        if thing not in self:
            raise NoThing(thing)
        self._check_kind(kind)
        return self._bills[thing, kind]

    def told(self, number, line):
        """The Case with this line in the place of the one with this number."""
        lines = self._text.split("\n")
        if not is_whole(number) or not 0 < number <= len(lines):
            raise NoLine(number)
        if not isinstance(line, str) or "\n" in line:
            raise BadCase(number)
        return Case("\n".join([*lines[:number - 1], line, *lines[number:]]))

    def __len__(self):
        return len(self._things)

    def __contains__(self, value):
        return isinstance(value, str) and value in self._things

    def __eq__(self, other):
        return isinstance(other, Case) and self._text == other._text

    def _check_kind(self, kind):
        if not isinstance(kind, str) or kind not in self._kinds:
            raise NoKind(kind)


def same_names(case, other):
    """Whether two cases have the same kinds and the same things, in the same sequence."""
    return case.kinds == other.kinds and case.things == other.things


def _read_lines(lines):
    """The lines as tuples: the word, the name (that of kinds is "") and what is told of it."""
    told = []
    for number, line in enumerate(lines, start=1):
        row = _read(line)
        if row is None or not _can_stand(row, told):
            raise BadCase(number)
        told.append(row)
    behind = _told_of(told, "after")
    for number, row in enumerate(told, start=1):
        if row[0] == "after" and _lacks(behind, row[2]):
            raise BadCase(number)
    if told[-1][0] != "thing":
        raise BadCase(len(told) + 1)
    return told


def _told_of(lines, word):
    """For each name what the lines with this word tell of it."""
    return {name: told for first, name, told in lines if first == word}


def _lacks(behind, kinds):
    """Whether more kinds can come behind these kinds than these."""
    return any([other not in kinds for kind in kinds for other in behind.get(kind, ())])


def _can_stand(row, ahead):
    """Whether a line can stand behind those that are ahead of it."""
    word, name, told = row
    if len(ahead) == 0:
        return word == "kinds"
    if PLACES[ahead[-1][0]] > PLACES[word] or name in _told_of(ahead, word):
        return False
    if word == "thing":
        return len(_told_of(ahead, word)) < MOST
    named = [name, *told] if word == "after" else [name]
    return all([kind in ahead[0][2] for kind in named])


def _read(line):
    """A line as a tuple: the word, the name and what is told of it; None if it has none of the forms."""
    words = line.split(" ")
    if words[0] == "kinds":
        return _read_kinds(words)
    if words[0] == "after":
        return _read_after(words)
    if words[0] == "mercy":
        return _read_mercy(words)
    if words[0] == "thing":
        return _read_thing(words)
    return None


def _is_name(word):
    return len(word) <= LONGEST and word.isascii() and word.isalpha() and word.islower()


def _are_names(words):
    """Whether these are one or more names, none of them twice."""
    return len(words) > 0 and all([_is_name(word) for word in words]) and len(set(words)) == len(words)


def _read_kinds(words):
    kinds = tuple(words[1:])
    return ("kinds", "", kinds) if _are_names(kinds) and len(kinds) <= MOST else None


def _read_after(words):
    kinds = tuple(words[2:])
    return ("after", words[1], kinds) if _are_names(kinds) else None


def _read_mercy(words):
    if len(words) == 3 and words[2] == "none":
        return ("mercy", words[1], ("none", 0))
    if len(words) != 4 or words[2] not in ("top", "less"):
        return None
    number = number_of(words[3])
    return None if number is None else ("mercy", words[1], (words[2], number))


def _read_thing(words):
    if len(words) < 4 or not _is_name(words[1]) or words[2] not in ("due", "late"):
        return None
    number, asked = number_of(words[3]), _read_fine(words[4:])
    if number is None or asked is None:
        return None
    return ("thing", words[1], asked.held(number) if words[2] == "due" else asked.moved(number))


def _read_fine(words):
    """What is asked by late days; None if the words are no fine."""
    if words == [""]:
        # There is a blank then, but nothing that it would part from the number.
        return None
    try:
        return fine(" ".join(words))
    except BadFine:
        return None


def _bills(kinds, mercies, things):
    """For each thing and kind what is asked for it on days of this kind."""
    return {(thing, kind): _forgiven(things[thing], mercies.get(kind)) for thing in things for kind in kinds}


def _forgiven(asked, mercy):
    """What is asked on days of a kind with this mercy, or with None."""
    if mercy is None:
        return asked
    word, number = mercy
    if word == "top":
        return asked & level(number)
    return level(0) if word == "none" else (asked - level(number)) | level(0)
