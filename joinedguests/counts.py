"""How many guests of a hall meet a row over a company."""

from joinedguests.company import Company
from joinedguests.errors import NoHall, NotLet, TooWide
from joinedguests.newcomers import couples_of, fine_ties
from joinedguests.seating import least_seated_rows
from joinedguests.sizes import Endless
from joinedguests.ties import check_backs, is_same
from joinedguests.verdict import least_clash

# With two ties without a row tie six guests never stand together.
MOST_TOGETHER = 5


class Most:
    """The result that tells: so many, as the newcomers in this company."""

    def __init__(self, number, company):
        self.number = number
        self.company = company

    def __eq__(self, other):
        if not isinstance(other, Most):
            return False
        return is_same(self.number, other.number) and self.company == other.company


def how_many(book, company, row):
    """Return how many guests of a hall meet a row: Endless or Most."""
    check_in_hall(book, company)
    if book.row_fault(company, row) is not None:
        raise NotLet("row")
    tie = endless_tie_of(book, row)
    if tie is not None:
        return Endless(tie)
    rows = _rows_counted(book, row)
    return Most(len(rows), _with_newcomers(company, row, rows))


def fixed_rows(book, company):
    """Return the rows that are met by one guest alone, ascending."""
    check_in_hall(book, company)
    return tuple([row for row in book.lawful_rows(company) if fine_ties_of(book, row) == ()])


def count_fault(book, company, row, found):
    """Return None if how_many may return what was found, else the first word that applies."""
    right = how_many(book, company, row)
    if isinstance(right, Endless):
        if not isinstance(found, Endless):
            return "kind"
        return None if found == right else "tie"
    if not isinstance(found, Most):
        return "kind"
    if not is_same(found.number, right.number):
        return "number"
    if not _is_with_newcomers(book, company, row, right.number, found.company):
        return "company"
    return None


def check_in_hall(book, company):
    """Raise an error if the company can not be asked of in a hall of the book."""
    check_backs(book.ties, company.ties)
    check_hall(book)
    if not book.lets(company):
        raise NotLet("company")


def check_hall(book):
    """Raise NoHall if the book has a clash."""
    clash = least_clash(book)
    if clash is not None:
        raise NoHall(clash)


def number_of(book, row):
    """Return how many guests of a hall meet a lawful row that has no endless tie."""
    return len(_rows_counted(book, row))


def number_up_to(book, row, most):
    """Return how many guests of a hall meet a lawful row, or `most` if they are more."""
    return len(_rows_together(book, row, most))


def endless_tie_of(book, row):
    """Return the least tie of endlessly many newcomers with this row, or None."""
    for tie in fine_ties_of(book, row):
        if not book.bars(tie, tie, tie):
            return tie
    return None


def fine_ties_of(book, row):
    """Return the ties that are fine between two newcomers with this row."""
    return fine_ties(book, couples_of(book, row, row))


def spare_labels(company, count):
    """Return the least so many labels that are no guest's."""
    labels = []
    label = 0
    while len(labels) < count:
        if label not in company:
            labels.append(label)
        label += 1
    return labels


def _rows_counted(book, row):
    """Return the rows of all newcomers that can stand together with this row."""
    if len(fine_ties_of(book, row)) > 2:
        raise TooWide()
    return _rows_together(book, row, MOST_TOGETHER)


def _rows_together(book, row, most):
    """Return the rows of the most newcomers, up to `most`, that can stand together with this row."""
    ties = fine_ties_of(book, row)
    rows = ((),)
    for count in range(2, most + 1):
        more = least_seated_rows(book, [[ties] * j for j in range(count)])
        # A company of more guests would have one of so many as a part.
        if more is None:
            break
        rows = more
    return rows


def _with_newcomers(company, row, rows):
    """Return the company with newcomers who have this row, and these rows among them."""
    whole = company
    ties = dict(zip(company.guests, row))
    labels = spare_labels(company, len(rows))
    for label, line in zip(labels, rows):
        for ahead, tie in zip(labels, line):
            ties[ahead] = tie
        whole = whole.with_row(label, [ties[guest] for guest in whole.guests])
    return whole


def _is_with_newcomers(book, company, row, number, told):
    """Return whether `told` is the company with so many newcomers who have this row."""
    labels = spare_labels(company, number)
    if not isinstance(told, Company) or told.ties != book.ties:
        return False
    if told.guests != tuple(sorted(list(company.guests) + labels)):
        return False
    if not book.lets(told) or told.part_of(company.guests) != company:
        return False
    for label in labels:
        for guest, tie in zip(company.guests, row):
            if told.tie_of(label, guest) != tie:
                return False
    return True
