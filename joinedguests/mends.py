"""Mends: lots of changes behind which a book joins."""

from joinedguests.changes import change_fault, changed_by, is_needless
from joinedguests.choosing import chosen_from
from joinedguests.clashjudge import joins_fault
from joinedguests.errors import BadChange, BadKind
from joinedguests.ties import check_backs, is_sequence, is_whole
from joinedguests.verdict import Joins, Strict, joins, joins_strictly, verdict_of

MOST_CHANGES = 6
STRICT = "strict"
KINDS = ("strict", "joins")


class Mend:
    """The result that tells: this book, with this verdict, stands behind a lot of changes."""

    def __init__(self, lot, book, verdict):
        self.lot = lot
        self.book = book
        self.verdict = verdict


def good_lots(book, pool, kind, sitting=()):
    """Return all good lots of a pool, shorter ones first, then ascending."""
    _check_pool(book, pool, kind, sitting)
    return tuple(_good_lots(book, pool, kind, sitting))


def least_mends(book, pool, kind, sitting=()):
    """Return a Mend for each good lot without another good lot within it, in the same order."""
    _check_pool(book, pool, kind, sitting)
    mends = []
    for lot in _least_lots(_good_lots(book, pool, kind, sitting)):
        behind = _book_behind_lot(book, pool, lot)
        mends.append(Mend(lot, behind, verdict_of(behind)))
    return tuple(mends)


def spoilers(book, pool, kind, sitting=()):
    """Return the pairs of a least mend's lot and an index with which it is good no more."""
    _check_pool(book, pool, kind, sitting)
    good = _good_lots(book, pool, kind, sitting)
    pairs = []
    for lot in _least_lots(good):
        for index in range(len(pool)):
            wider = tuple(sorted(lot + (index,)))
            if index not in lot and wider not in good and _book_behind_lot(book, pool, wider) is not None:
                pairs.append((lot, index))
    return tuple(pairs)


def mends_fault(book, pool, kind, sitting, mends):
    """Return None for the right least mends, else the first word that applies."""
    _check_pool(book, pool, kind, sitting)
    lots = [mend.lot for mend in mends]
    if not _are_in_order(lots, len(pool)):
        return "order"
    good = _good_lots(book, pool, kind, sitting)
    if not all([mend.lot in good and _is_right(book, pool, mend) for mend in mends]):
        return "bad"
    if any([_has_good_within(lot, good) for lot in lots]):
        return "smaller"
    if any([lot not in lots for lot in _least_lots(good)]):
        return "lacking"
    return None


def _check_pool(book, pool, kind, sitting):
    if not is_sequence(pool) or not 1 <= len(pool) <= MOST_CHANGES:
        raise BadChange(0, "pool")
    for index, change in enumerate(pool):
        what = change_fault(book, change)
        # Whether a change is needless hangs on the changes that are made ahead of it.
        if what is not None and what != "needless":
            raise BadChange(index, what)
    if kind not in KINDS:
        raise BadKind(kind)
    for company in sitting:
        check_backs(book.ties, company.ties)


def _good_lots(book, pool, kind, sitting):
    """Return the list of all good lots, shorter ones first, then ascending."""
    lots = []
    indices = list(range(len(pool)))
    for count in range(len(pool) + 1):
        for lot in chosen_from(indices, count):
            if _is_good(_book_behind_lot(book, pool, lot), kind, sitting):
                lots.append(lot)
    return lots


def _book_behind_lot(book, pool, lot):
    """Return the book behind the changes of a lot, or None if one of them is needless."""
    for index in lot:
        if is_needless(book, pool[index]):
            return None
        book = changed_by(book, pool[index])
    return book


def _is_good(book, kind, sitting):
    """Return whether the book behind a lot, if there is one, makes the lot good."""
    if book is None or not all([book.lets(company) for company in sitting]):
        return False
    return joins_strictly(book) if kind == STRICT else joins(book)


def _least_lots(good):
    """Return those of all good lots that have no other one within them."""
    return [lot for lot in good if not _has_good_within(lot, good)]


def _has_good_within(lot, good):
    """Return whether another good lot stands within this one."""
    return any([other != lot and all([index in lot for index in other]) for other in good])


def _are_in_order(lots, many):
    """Return whether these are ascending tuples of indices below `many`, each behind the one ahead."""
    ahead = None
    for lot in lots:
        if not isinstance(lot, tuple) or not all([is_whole(index, 0, many - 1) for index in lot]):
            return False
        if lot != tuple(sorted(set(lot))):
            return False
        if ahead is not None and (len(lot), lot) <= ahead:
            return False
        ahead = (len(lot), lot)
    return True


def _is_right(book, pool, mend):
    """Return whether book and verdict of a mend are those behind its lot, which is good."""
    behind = _book_behind_lot(book, pool, mend.lot)
    if mend.book != behind:
        return False
    if isinstance(mend.verdict, Strict):
        return joins_strictly(behind)
    return isinstance(mend.verdict, Joins) and joins_fault(behind, mend.verdict) is None
