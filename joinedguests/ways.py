"""All ways in which two companies can be put into one with nobody made one."""

from joinedguests.errors import NoWay, TooMany
from joinedguests.merging import check_mergeable, common_guests, outsiders_of, with_crossing
from joinedguests.newcomers import fine_ties
from joinedguests.ties import is_whole

MOST_OUTSIDERS = 3


def merge_ways(book, one, other):
    """Yield all let companies of all guests of both, in the order of their crossings."""
    for crossing in _crossings(book, one, other):
        yield with_crossing(one, other, crossing)


def how_many_ways(book, one, other):
    """Return the number of ways."""
    return len(list(_crossings(book, one, other)))


def way_at(book, one, other, k):
    """Return the way with index k."""
    crossings = list(_crossings(book, one, other))
    if not is_whole(k, 0, len(crossings) - 1):
        raise NoWay(k)
    return with_crossing(one, other, crossings[k])


def way_place(book, one, other, company):
    """Return the index of a company among the ways, or None."""
    for place, way in enumerate(merge_ways(book, one, other)):
        if way == company:
            return place
    return None


def _crossings(book, one, other):
    """Yield the crossings of all ways, ascending."""
    check_mergeable(book, one, other)
    _check_outsiders(one, other)
    _check_outsiders(other, one)
    couples = [(x, y) for y in outsiders_of(other, one) for x in outsiders_of(one, other)]
    seats = [(x, y, _couples_at_common(one, other, x, y)) for x, y in couples]
    yield from _crossings_beyond(book, one, other, seats, ())


def _check_outsiders(one, other):
    count = len(outsiders_of(one, other))
    if count > MOST_OUTSIDERS:
        raise TooMany(count)


def _couples_at_common(one, other, x, y):
    """Return for each common guest its tie from x and its tie to y."""
    return [(one.tie_of(x, label), other.tie_of(label, y)) for label in common_guests(one, other)]


def _crossings_beyond(book, one, other, seats, crossing):
    """Yield the crossings of let companies that begin with these ties."""
    if len(crossing) == len(seats):
        yield crossing
        return
    x, y, common = seats[len(crossing)]
    crossed = _couples_at_crossed(one, other, seats, crossing)
    for tie in fine_ties(book, common + crossed):
        yield from _crossings_beyond(book, one, other, seats, crossing + (tie,))


def _couples_at_crossed(one, other, seats, crossing):
    """Return the couples of the outsiders whose ties to the next x and y are known by now."""
    x, y, _ = seats[len(crossing)]
    found = []
    for (ahead, behind, _), tie in zip(seats, crossing):
        if ahead == x:
            found.append((tie, other.tie_of(behind, y)))
        if behind == y:
            found.append((one.tie_of(x, ahead), tie))
    return found
