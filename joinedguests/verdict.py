"""The verdict of a book: whether any two newcomers over any company join."""

from joinedguests.book import let_companies
from joinedguests.newcomers import bars_among, couples_of, fine_ties, has_like_ends
from joinedguests.seating import barring_lots, seat_couples
from joinedguests.ties import is_same


class Verdict:
    """The base of the three verdicts."""

    KIND = ""


class Strict(Verdict):
    """Any two newcomers have a fine tie."""

    KIND = "strict"

    def __eq__(self, other):
        return isinstance(other, Strict)


class Joins(Verdict):
    """Any two newcomers join; two with this row have no fine tie."""

    KIND = "joins"

    def __init__(self, company, row, witnesses):
        self.company = company
        self.row = row
        self.witnesses = witnesses

    def __eq__(self, other):
        if not isinstance(other, Joins):
            return False
        return is_same((self.company, self.row, self.witnesses), (other.company, other.row, other.witnesses))


class Clash(Verdict):
    """Two newcomers with unlike rows that have no fine tie."""

    KIND = "clash"

    def __init__(self, company, one, other, witnesses):
        self.company = company
        self.one = one
        self.other = other
        self.witnesses = witnesses

    def __eq__(self, other):
        if not isinstance(other, Clash):
            return False
        return is_same(
            (self.company, self.one, self.other, self.witnesses),
            (other.company, other.one, other.other, other.witnesses),
        )


def verdict_of(book):
    """Return the verdict of a book."""
    clash = least_clash(book)
    if clash is not None:
        return clash
    # Without a clash no lot with unlike ends can sit, so these need no look.
    for lot in barring_lots(book):
        if _has_like_rows(book, lot):
            company = seat_couples(book, lot)
            if company is not None:
                return Joins(company, tuple([p for p, _ in lot]), bars_among(book, company.guests, lot))
    return Strict()


def joins(book):
    """Return whether a book has no clash."""
    return least_clash(book) is None


def joins_strictly(book):
    """Return whether any two newcomers have a fine tie."""
    return isinstance(verdict_of(book), Strict)


def least_clash(book):
    """Return a clash with the fewest guests, or None if the book joins."""
    lots = list(barring_lots(book))
    for count in range(1, book.ties.many + 2):
        for couples in _lots_of_clashes(book, lots, count):
            company = seat_couples(book, couples)
            if company is not None:
                return clash_among(book, company, couples)
    return None


def all_clashes(book, n):
    """Yield all clashes over companies with the labels 0 to n - 1."""
    for company in let_companies(book, n):
        rows = list(book.lawful_rows(company))
        for one in rows:
            for other in rows:
                couples = couples_of(book, one, other)
                if one != other and fine_ties(book, couples) == ():
                    yield clash_among(book, company, couples)


def clash_among(book, company, couples):
    """Return the clash over a company whose guests have these couples."""
    one = tuple([p for p, _ in couples])
    other = tuple([book.ties.back(q) for _, q in couples])
    return Clash(company, one, other, bars_among(book, company.guests, couples))


def _has_like_rows(book, couples):
    return all([has_like_ends(book, couple) for couple in couples])


def _lots_of_clashes(book, lots, count):
    """Return the couples of all clashes of so many guests that may be the least."""
    # A least clash is a barring lot, with one more guest if the rows are alike on it.
    found = [lot for lot in lots if len(lot) == count and not _has_like_rows(book, lot)]
    ties = range(book.ties.many)
    unlike = [(p, q) for p in ties for q in ties if not has_like_ends(book, (p, q))]
    for lot in lots:
        if len(lot) == count - 1 and _has_like_rows(book, lot):
            found.extend([lot + (couple,) for couple in unlike])
    return found
