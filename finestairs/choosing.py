"""The cheapest lines: which of some offered lines must come into a case, so that what is wished for holds."""

from finestairs.basics import is_whole
from finestairs.calendars import is_row, is_told, some_of
from finestairs.cases import Case, same_names
from finestairs.errors import BadCase, BadOffers, BadWishes
from finestairs.habits import loss
from finestairs.later import later
from finestairs.ranks import can_go_ahead
from finestairs.scores import is_habit

# No more offers, no greater price, and no more wishes, than that.
MOST_OFFERS = 4
MOST_PRICE = 9
MOST_WISHES = 3


def cheapest(case, offers, wishes):
    """The first pick by whose case all wishes hold; and why none ahead of it, or none at all, is one."""
    if not _are_offers(case, offers):
        raise BadOffers(offers)
    if not _are_wishes(case, wishes):
        raise BadWishes(wishes)
    reasons = []
    for price, _, pick in _picks(offers):
        other = _changed(case, pick)
        if other is not None:
            number = _first_broken(other, wishes)
            if number is None:
                return ("pick", price, pick, tuple(reasons))
            reasons.append((pick, number))
    return ("none", tuple(reasons))


def _are_offers(case, value):
    """Whether any value is a tuple of offers, ascending."""
    if not isinstance(value, tuple) or not 0 < len(value) <= MOST_OFFERS:
        return False
    return all([_is_offer(case, part) for part in value]) and list(value) == sorted(set(value))


def _is_offer(case, value):
    if not isinstance(value, tuple) or len(value) != 3:
        return False
    number, line, price = value
    if not is_whole(number) or not 0 < number <= len(case.text.split("\n")):
        return False
    return isinstance(line, str) and "\n" not in line and is_whole(price) and 0 < price <= MOST_PRICE


def _are_wishes(case, value):
    """Whether any value is a tuple of wishes."""
    if not isinstance(value, tuple) or not 0 < len(value) <= MOST_WISHES:
        return False
    return all([_is_wish(case, part) for part in value])


def _is_wish(case, value):
    if is_told(value, "row", 2):
        return is_row(case, value[1])
    if is_told(value, "later", 3):
        return value[1] in case and _is_limit(value[2])
    return is_told(value, "loss", 3) and is_habit(case, value[1]) and _is_limit(value[2])


def _is_limit(value):
    return is_whole(value) and value >= 0


def _picks(offers):
    """All picks, in sequence, each behind its price and how many offers it has."""
    picks = [pick for many in range(len(offers) + 1) for pick in some_of(offers, many)]
    return sorted([
        (sum([price for _, _, price in pick]), len(pick), pick)
        for pick in picks if len(set([number for number, _, _ in pick])) == len(pick)
    ])


def _changed(case, pick):
    """The case that comes with the lines of a pick; None if the pick does not count."""
    lines = case.text.split("\n")
    for number, line, _ in pick:
        lines[number - 1] = line
    try:
        other = Case("\n".join(lines))
    except BadCase:
        return None
    return other if same_names(case, other) else None


def _first_broken(case, wishes):
    """The number of the first wish that does not hold; None if all hold."""
    for number, wish in enumerate(wishes):
        if not _holds(case, wish):
            return number
    return None


def _holds(case, wish):
    if wish[0] == "row":
        row = wish[1]
        return all([can_go_ahead(case, one, other) for at, one in enumerate(row) for other in row[at + 1:]])
    word, about, limit = wish
    told = later(case, about) if word == "later" else loss(case, about)
    if told[0] in ("saves", "most"):
        return told[1] <= limit
    return told[0] == "never"
