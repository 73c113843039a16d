"""Ties seen as other ties, several perhaps as one."""

from joinedguests.book import Book
from joinedguests.company import Company
from joinedguests.errors import BadSeeing, NoTie, TooMany
from joinedguests.seating import seated_rows
from joinedguests.shapes import spread_ties
from joinedguests.threes import all_threes
from joinedguests.ties import Ties, check_backs, is_sequence

MOST_LIFTED = 6


class Seeing:
    """For each tie the tie as which it is seen."""

    def __init__(self, ties, onto):
        _check_seeing(ties, onto)
        self.ties = ties
        self.onto = tuple(onto)
        self.seen_ties = _seen_ties(ties, onto)

    def __eq__(self, other):
        return isinstance(other, Seeing) and self.ties == other.ties and self.onto == other.onto

    def ties_seen_as(self, tie):
        """Return the ties that are seen as this one, ascending."""
        if not self.seen_ties.has(tie):
            raise NoTie(tie)
        return tuple([t for t, seen in enumerate(self.onto) if seen == tie])


def seen_company(seeing, company):
    """Return the company of the same guests with the seen ties."""
    check_backs(seeing.ties, company.ties)
    rows = [[seeing.onto[tie] for tie in row] for row in company.rows]
    return Company(seeing.seen_ties, company.guests, rows)


def seen_book(seeing, book):
    """Return the book of seen ties that lets what some let three is seen as."""
    check_backs(seeing.ties, book.ties)
    let = [_seen_three(seeing, three) for three in all_threes(book.ties) if three not in book.barred]
    return Book(seeing.seen_ties, [three for three in all_threes(seeing.seen_ties) if three not in let])


def unseen_book(seeing, book):
    """Return the book of ties that lets a three if the book lets what it is seen as."""
    check_backs(seeing.seen_ties, book.ties)
    return Book(seeing.ties, [three for three in all_threes(seeing.ties) if _seen_three(seeing, three) in book.barred])


def lifted_companies(seeing, book, company):
    """Yield all companies that a book of ties lets and that are seen as this one, by their rows."""
    check_backs(seeing.ties, book.ties)
    check_backs(seeing.seen_ties, company.ties)
    if len(company) > MOST_LIFTED:
        raise TooMany(len(company))
    choices = [[seeing.ties_seen_as(tie) for tie in row] for row in company.rows]
    for rows in seated_rows(book, choices):
        yield Company(seeing.ties, company.guests, rows)


def led_question(seeing, question):
    """Return the question about ties that is answered as this one about seen ties."""
    return spread_ties(question, [seeing.ties_seen_as(tie) for tie in range(seeing.seen_ties.many)])


def _check_seeing(ties, onto):
    if not is_sequence(onto) or len(onto) != ties.many:
        raise BadSeeing(0, "sequence")
    for index, tie in enumerate(onto):
        if not ties.has(tie):
            raise BadSeeing(index, "tie")
    for tie in range(max(2, max(onto))):
        if tie not in onto:
            raise BadSeeing(tie, "missing")
    for index, tie in enumerate(onto):
        ahead = onto.index(tie)
        if onto[ties.back(index)] != onto[ties.back(ahead)]:
            raise BadSeeing(index, "back")


def _seen_ties(ties, onto):
    """Return the Ties as which these are seen."""
    backs = {}
    for tie, seen in enumerate(onto):
        backs[seen] = onto[ties.back(tie)]
    return Ties([backs[seen] for seen in sorted(backs)])


def _seen_three(seeing, three):
    return tuple([seeing.onto[tie] for tie in three])
