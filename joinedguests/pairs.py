"""Two books side by side: each tie of the book beside is a tie of the one and a tie of the other."""

from joinedguests.book import Book
from joinedguests.company import Company
from joinedguests.errors import NoRows, TooMany, UnlikeGuests
from joinedguests.sizes import row_tie_of
from joinedguests.threes import all_threes
from joinedguests.ties import MOST_TIES, Ties, check_backs
from joinedguests.verdict import verdict_of


def book_beside(one, other):
    """Return the book that bars what one book bars in the firsts or the other in the seconds."""
    ties = _ties_beside(one, other)
    many = other.ties.many
    barred = []
    for p, q, r in all_threes(ties):
        if one.bars(p // many, q // many, r // many) or other.bars(p % many, q % many, r % many):
            barred.append((p, q, r))
    return Book(ties, barred)


def first_of(one, other, company):
    """Return the company of the same guests with the firsts of the ties."""
    check_backs(_ties_beside(one, other), company.ties)
    rows = [[tie // other.ties.many for tie in row] for row in company.rows]
    return Company(one.ties, company.guests, rows)


def second_of(one, other, company):
    """Return the company of the same guests with the seconds of the ties."""
    check_backs(_ties_beside(one, other), company.ties)
    rows = [[tie % other.ties.many for tie in row] for row in company.rows]
    return Company(other.ties, company.guests, rows)


def put_beside(one, other, first, second):
    """Return the company whose ties have those of two companies as firsts and seconds."""
    ties = _ties_beside(one, other)
    check_backs(one.ties, first.ties)
    check_backs(other.ties, second.ties)
    if first.guests != second.guests:
        raise UnlikeGuests()
    rows = []
    for ones, others in zip(first.rows, second.rows):
        rows.append([s * other.ties.many + t for s, t in zip(ones, others)])
    return Company(ties, first.guests, rows)


def beside_verdict(one, other):
    """Return the verdict of the book beside, of two books that have row ties."""
    beside = book_beside(one, other)
    if row_tie_of(one) is None:
        raise NoRows("one")
    if row_tie_of(other) is None:
        raise NoRows("other")
    return verdict_of(beside)


def _ties_beside(one, other):
    """Return the ties of the book beside, or raise TooMany."""
    many = one.ties.many * other.ties.many
    if many > MOST_TIES:
        raise TooMany(many)
    return Ties([s * other.ties.many + t for s in one.ties.backs for t in other.ties.backs])
