"""Couples of ties to two newcomers, and the companies in which they sit."""

from joinedguests.company import Company
from joinedguests.errors import BadCouple
from joinedguests.threes import is_couple

MOST_COUPLES = 5


def barring_lots(book):
    """Yield all barring lots, those with fewer couples first."""
    ties = range(book.ties.many)
    couples = [(p, q) for p in ties for q in ties]
    for count in range(1, book.ties.many + 1):
        yield from _lots_beyond(book, couples, (), count)


def seat_couples(book, couples):
    """Return the let company with the least rows in which the couples sit, or None."""
    _check_couples(book, couples)
    choices = [[_choices_at(book, couples[j], couples[i]) for i in range(j)] for j in range(len(couples))]
    # Most lots fail at one pair alone, which is seen without a search.
    if not all([all(line) for line in choices]):
        return None
    rows = least_seated_rows(book, choices)
    if rows is None:
        return None
    return Company(book.ties, list(range(len(rows))), rows)


def refuse_couples(book, couples):
    """Return None if the couples can sit, else a paper that shows why they can not."""
    if seat_couples(book, couples) is not None:
        return None
    return _paper_about(book, couples, ((),), ())


def least_seated_rows(book, choices):
    """Return the least rows of a let company with these choices, or None."""
    for rows in seated_rows(book, choices):
        return rows
    return None


def seated_rows(book, choices):
    """Yield the rows of all let companies with these choices, ascending.

    The tie from the guest at place j to the one at place i is one of
    `choices[j][i]`, which stand in ascending order.
    """
    yield from _rows_seated(book, choices, (), ())


def _lots_beyond(book, couples, lot, count):
    """Yield the barring lots of so many couples that begin with the given lot."""
    if len(lot) == count:
        if _bars_all(book, lot):
            yield lot
        return
    for index, couple in enumerate(couples):
        # A couple that is not needed in a lot is not needed in a larger one.
        if _all_needed(book, lot + (couple,)):
            yield from _lots_beyond(book, couples[index + 1:], lot + (couple,), count)


def _bars_all(book, lot):
    return all([any([book.bar_table[p][q][tie] for p, q in lot]) for tie in range(book.ties.many)])


def _all_needed(book, lot):
    """Return whether each couple bars a tie that none of the others bars."""
    alone = {}
    for tie in range(book.ties.many):
        barring = [couple for couple in lot if book.bar_table[couple[0]][couple[1]][tie]]
        if len(barring) == 1:
            alone[barring[0]] = True
    return len(alone) == len(lot)


def _check_couples(book, couples):
    for index, couple in enumerate(couples):
        if index == MOST_COUPLES or not is_couple(book.ties, couple):
            raise BadCouple(index)


def _choices_at(book, couple, ahead):
    """Return the ties from a guest to one ahead that both newcomers' rows allow."""
    u, v = couple
    p, q = ahead
    bars = book.bar_table
    return [s for s in range(book.ties.many) if not bars[u][s][p] and not bars[s][q][v]]


def _rows_seated(book, choices, rows, row):
    """Yield the rows that begin with `rows` and then `row`, ascending."""
    if len(rows) == len(choices):
        yield rows
        return
    if len(row) == len(rows):
        yield from _rows_seated(book, choices, rows + (row,), ())
        return
    for tie in choices[len(rows)][len(row)]:
        if _barred_third(book, rows, row, tie) is None:
            yield from _rows_seated(book, choices, rows, row + (tie,))


def _barred_third(book, rows, row, tie):
    """Return the least place of a guest with which the tie makes a barred three, or None."""
    for k, entry in enumerate(row):
        if book.bar_table[tie][rows[len(row)][k]][entry]:
            return k
    return None


def _paper_about(book, couples, rows, row):
    """Return the paper about the next pair, the earlier ones having these ties."""
    return tuple([_paper_entry(book, couples, rows, row, tie) for tie in range(book.ties.many)])


def _paper_entry(book, couples, rows, row, tie):
    j = len(rows)
    i = len(row)
    u, v = couples[j]
    p, q = couples[i]
    if book.bar_table[u][tie][p]:
        return ("one", j, i)
    if book.bar_table[tie][q][v]:
        return ("other", j, i)
    k = _barred_third(book, rows, row, tie)
    if k is not None:
        return ("three", j, i, k)
    if i + 1 < j:
        return _paper_about(book, couples, rows, row + (tie,))
    return _paper_about(book, couples, rows + (row + (tie,),), ())
