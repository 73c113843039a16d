"""Texts of books."""

from joinedguests.book import Book
from joinedguests.errors import BadText
from joinedguests.tietext import numbers_of, rows_of_text, ties_of_row, ties_text


def book_text(book):
    """Return the text of a book."""
    rows = [ties_text(book.ties)]
    for p, q, r in book.least_barred:
        rows.append(f"{p} {q} {r}")
    return "\n".join(rows)


def parse_book(text):
    """Return the book of a text."""
    rows = rows_of_text(text)
    ties = ties_of_row(rows[0])
    threes = []
    for at in range(1, len(rows)):
        three = numbers_of(rows[at].split(" "))
        if three is None or len(three) != 3:
            raise BadText(at + 1, "form")
        if not all([ties.has(tie) for tie in three]):
            raise BadText(at + 1, "tie")
        threes.append(three)
    return Book(ties, threes)
