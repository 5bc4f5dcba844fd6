"""Deeds: the lines by which journals tell them, and doing them."""

from finestairs.basics import whole_of


def words_in(line):
    """The words of a line that are parted by one blank each; none if it is no string or one of them is empty."""
    words = line.split(" ") if isinstance(line, str) else []
    return [] if "" in words else words


def deed_of(words):
    """What is done by the words of a line of a journal, as a tuple; None if they have none of the forms."""
    if len(words) == 2 and words[0] == "bring":
        return ("bring", words[1])
    if len(words) == 3 and words[0] == "come":
        day = whole_of(words[1])
        return None if day is None else ("come", day, words[2])
    if len(words) > 2 and words[0] == "change":
        number = whole_of(words[1])
        return None if number is None else ("change", number, " ".join(words[2:]))
    return None


def do(counter, deed):
    """Does at a counter what deed_of told."""
    if deed[0] == "bring":
        counter.bring(deed[1])
    elif deed[0] == "come":
        counter.come(deed[1], deed[2])
    else:
        counter.change(deed[1], deed[2])
