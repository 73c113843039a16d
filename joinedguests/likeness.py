"""Likenesses of companies, and the least form of a company."""

from joinedguests.company import Company
from joinedguests.errors import TooMany

MOST_LIKE = 7


def likenesses(one, other):
    """Yield all likenesses of one with other, in ascending order."""
    _check_count(one)
    _check_count(other)
    if one.ties == other.ties and len(one) == len(other):
        for places in _places_beyond(one.table, other.table, ()):
            yield tuple([other.guests[place] for place in places])


def are_alike(one, other):
    """Return whether one has a likeness with other."""
    for _ in likenesses(one, other):
        return True
    return False


def turnings_of(company):
    """Return all likenesses of a company with itself, in ascending order."""
    return tuple(likenesses(company, company))


def least_form(company):
    """Return the alike company on the labels 0, 1, .. with the least rows."""
    _check_count(company)
    rows = []
    orders = [()]
    for _ in company.guests:
        row, orders = _least_next(company.table, orders)
        rows.append(row)
    return Company(company.ties, list(range(len(rows))), rows)


def _check_count(company):
    if len(company) > MOST_LIKE:
        raise TooMany(len(company))


def _places_beyond(table, other_table, led):
    """Yield the places of all likenesses that begin with those in led."""
    place = len(led)
    if place == len(table):
        yield led
        return
    for target in range(len(other_table)):
        if target not in led and _keeps_ties(table[place], other_table[target], led):
            yield from _places_beyond(table, other_table, led + (target,))


def _keeps_ties(line, other_line, led):
    for ahead, target in enumerate(led):
        if line[ahead] != other_line[target]:
            return False
    return True


def _least_next(table, orders):
    """Return the least row that can come next, and all orders that give it."""
    # All orders with equal rows are kept: any of them may go on with the least.
    least = None
    kept = []
    for order in orders:
        for place in range(len(table)):
            if place in order:
                continue
            row = [table[place][ahead] for ahead in order]
            if least is None or row < least:
                least = row
                kept = []
            if row == least:
                kept.append(order + (place,))
    return least, kept
