"""A book within a book: ties of the inner one in lots of guests, ties of the outer one among lots."""

from joinedguests.book import Book
from joinedguests.company import Company
from joinedguests.errors import BadLots, NotLet, TooMany
from joinedguests.threes import all_threes
from joinedguests.ties import MOST_TIES, Ties, check_backs
from joinedguests.verdict import verdict_of


class Lots:
    """The result that tells the lots of a company, and of which companies it is made."""

    def __init__(self, lots, outer, inners):
        self.lots = lots
        self.outer = outer
        self.inners = inners


def book_within(outer, inner):
    """Return the book of the companies whose guests sit in lots."""
    ties = _ties_within(outer, inner)
    return Book(ties, [three for three in all_threes(ties) if _is_barred_within(outer, inner, ties, three)])


def lots_of(outer, inner, company):
    """Return the lots of a company, the outer company of their least guests and the inner companies."""
    if not book_within(outer, inner).lets(company):
        raise NotLet("company")
    many = inner.ties.many
    lots = []
    for place, line in enumerate(company.table):
        # Who has a tie of inner to somebody ahead sits in a lot that is told already.
        if all([tie >= many for tie in line[:place]]):
            later = list(zip(company.guests[place + 1:], line[place + 1:]))
            lots.append((company.guests[place],) + tuple([label for label, tie in later if tie < many]))
    leasts = company.part_of([lot[0] for lot in lots])
    rows = [[tie - many for tie in row] for row in leasts.rows]
    inners = [Company(inner.ties, lot, company.part_of(lot).rows) for lot in lots]
    return Lots(tuple(lots), Company(outer.ties, leasts.guests, rows), tuple(inners))


def put_within(outer, inner, outer_company, inner_companies):
    """Return the company in which each guest of the outer one is the least of an inner one."""
    ties = _ties_within(outer, inner)
    check_backs(outer.ties, outer_company.ties)
    seats = _seats_in_lots(inner, outer_company, inner_companies)
    labels = sorted(seats)
    rows = [[_tie_between(inner, outer_company, seats, y, x) for x in labels if x < y] for y in labels]
    return Company(ties, labels, rows)


def within_verdict(outer, inner):
    """Return the verdict of the book within."""
    return verdict_of(book_within(outer, inner))


def _ties_within(outer, inner):
    """Return the ties of both books, those of inner first, or raise TooMany."""
    many = inner.ties.many
    if outer.ties.many + many > MOST_TIES:
        raise TooMany(outer.ties.many + many)
    return Ties(inner.ties.backs + tuple([many + back for back in outer.ties.backs]))


def _is_barred_within(outer, inner, ties, three):
    """Return whether a three over both books' ties is barred."""
    p, q, r = three
    many = inner.ties.many
    count = len([tie for tie in three if tie < many])
    if count == 3:
        return inner.bars(p, q, r)
    if count == 0:
        return outer.bars(p - many, q - many, r - many)
    # Two guests of one lot have the same tie to the third guest, which is of another lot.
    if count == 1 and p < many:
        return q != r
    if count == 1 and q < many:
        return p != r
    return count == 2 or p != ties.back(q)


def _seats_in_lots(inner, outer_company, inner_companies):
    """Return for each guest the least one of its lot and its inner company, or raise an error."""
    if len(inner_companies) != len(outer_company):
        raise BadLots(0, "lots")
    seats = {}
    for index, company in enumerate(inner_companies):
        check_backs(inner.ties, company.ties)
        least = outer_company.guests[index]
        if company.guests[:1] != (least,):
            raise BadLots(index, "label")
        if any([label in seats for label in company]):
            raise BadLots(index, "double")
        for label in company:
            seats[label] = (least, company)
    return seats


def _tie_between(inner, outer_company, seats, x, y):
    """Return the tie from guest x to guest y, who sit in lots."""
    least, company = seats[x]
    if y in company:
        return company.tie_of(x, y)
    return inner.ties.many + outer_company.tie_of(least, seats[y][0])
