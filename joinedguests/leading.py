"""Guests led into a hall, from a company or from another hall."""

from joinedguests.errors import BadGrowth, BadPairs, HallBound, NoGuest, NotLet, OtherBook
from joinedguests.hall import HallState
from joinedguests.ties import is_whole

MOST_TURNS = 60


def seat_company(hall, company):
    """Return the labels of the guests of a hall to which those of a company are led."""
    if not hall.book.lets(company):
        raise NotLet("company")
    rows = list(company.rows)
    before = HallState(hall)
    labels = ()
    try:
        for row in rows:
            labels = labels + (hall.meet(labels, row),)
    except HallBound:
        hall.stand_as(before)
        raise
    return labels


def lead_on(one, other, pairs, guest):
    """Return the guest of other to which a guest of one is led, the pairs being led already."""
    _check_pairs(one, other, pairs)
    if guest not in one:
        raise NoGuest(guest)
    return _led(one, other, pairs, guest)


def lead_back(one, other, pairs, guest):
    """Return the guest of one to which a guest of other is led back."""
    _check_pairs(one, other, pairs)
    if guest not in other:
        raise NoGuest(guest)
    return _led(other, one, _turned(pairs), guest)


def lead_all(one, other, pairs=()):
    """Lead on all guests of one, and return all pairs."""
    _check_pairs(one, other, pairs)
    found = [tuple(pair) for pair in pairs]
    there = list(one.company.guests)
    before = HallState(other)
    try:
        for guest in there:
            if guest not in [first for first, _ in found]:
                found.append((guest, _led(one, other, found, guest)))
    except HallBound:
        other.stand_as(before)
        raise
    return tuple(found)


def zigzag(one, other, turns):
    """Lead guests on and back by turns, and return all pairs."""
    _check_books(one, other)
    if not is_whole(turns, 0, MOST_TURNS):
        raise BadGrowth("turns")
    pairs = ()
    ones_before = HallState(one)
    others_before = HallState(other)
    try:
        for turn in range(turns):
            if turn % 2 == 0:
                pairs = _with_next(one, other, pairs)
            else:
                pairs = _turned(_with_next(other, one, _turned(pairs)))
    except HallBound:
        one.stand_as(ones_before)
        other.stand_as(others_before)
        raise
    return pairs


def _check_books(one, other):
    if one.book != other.book:
        raise OtherBook()


def _check_pairs(one, other, pairs):
    _check_books(one, other)
    ahead = []
    for first, second in pairs:
        if first not in one or second not in other:
            raise BadPairs("guest")
        if any([first == x or second == y for x, y in ahead]):
            raise BadPairs("double")
        if any([one.company.tie_of(first, x) != other.company.tie_of(second, y) for x, y in ahead]):
            raise BadPairs("tie")
        ahead.append((first, second))


def _turned(pairs):
    return tuple([(second, first) for first, second in pairs])


def _led(one, other, pairs, guest):
    """Return the guest of other to which a guest of one is led, by right pairs."""
    for first, second in pairs:
        if first == guest:
            return second
    row = [one.company.tie_of(guest, first) for first, _ in pairs]
    return other.meet([second for _, second in pairs], row)


def _with_next(one, other, pairs):
    """Return the pairs, and one more of the least guest of one that has none, if there is such a one."""
    firsts = [first for first, _ in pairs]
    free = [guest for guest in one.company.guests if guest not in firsts]
    if len(free) == 0:
        return pairs
    return pairs + ((free[0], _led(one, other, pairs, free[0])),)
