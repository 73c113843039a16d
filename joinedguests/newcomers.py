"""Two newcomers over a company, and the ties that can stand between them."""

from joinedguests.errors import NotLet, NoTie
from joinedguests.ties import is_same


class Joinings:
    """The fine ties of two newcomers, and whether they may be the same."""

    def __init__(self, ties, same):
        self.ties = ties
        self.same = same

    def __eq__(self, other):
        if not isinstance(other, Joinings):
            return False
        return is_same(self.ties, other.ties) and is_same(self.same, other.same)

    @property
    def can_join(self):
        """Whether there is a fine tie or the newcomers may be the same."""
        return len(self.ties) > 0 or self.same is True


def joinings_of(book, company, one, other):
    """Return how two newcomers with these rows can stand to one another."""
    _check_newcomers(book, company, one, other)
    couples = couples_of(book, one, other)
    return Joinings(fine_ties(book, couples), tuple(one) == tuple(other))


def first_bar(book, company, one, other, tie):
    """Return the least label of a guest that bars the tie, or None."""
    _check_newcomers(book, company, one, other)
    if not book.ties.has(tie):
        raise NoTie(tie)
    return bar_among(book, company.guests, couples_of(book, one, other), tie)


def all_bars(book, company, one, other):
    """Return what first_bar returns, for each tie from 0 on."""
    _check_newcomers(book, company, one, other)
    return bars_among(book, company.guests, couples_of(book, one, other))


def couples_of(book, one, other):
    """Return for each guest its tie from the first newcomer and its tie to the second."""
    return tuple([(p, book.ties.back(entry)) for p, entry in zip(one, other)])


def has_like_ends(book, couple):
    """Return whether a guest with this couple has one tie to both newcomers."""
    return couple[1] == book.ties.back(couple[0])


def fine_ties(book, couples):
    """Return the ties that no guest with these couples bars, ascending."""
    ties = range(book.ties.many)
    return tuple([tie for tie in ties if not any([book.bar_table[p][q][tie] for p, q in couples])])


def bar_among(book, labels, couples, tie):
    """Return the first of the labels whose couple bars the tie, or None."""
    for label, (p, q) in zip(labels, couples):
        if book.bar_table[p][q][tie]:
            return label
    return None


def bars_among(book, labels, couples):
    """Return for each tie the first of the labels whose couple bars it, or None."""
    return tuple([bar_among(book, labels, couples, tie) for tie in range(book.ties.many)])


def _check_newcomers(book, company, one, other):
    if not book.lets(company):
        raise NotLet("company")
    if book.row_fault(company, one) is not None:
        raise NotLet("one")
    if book.row_fault(company, other) is not None:
        raise NotLet("other")
