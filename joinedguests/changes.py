"""Changes of books."""

from joinedguests.book import Book
from joinedguests.errors import BadChange
from joinedguests.threes import is_three
from joinedguests.ties import is_sequence

BAR = "bar"
LET = "let"


def apply_changes(book, changes):
    """Return the book behind all changes, made one after another."""
    if not is_sequence(changes):
        raise BadChange(0, "sequence")
    changed = Book(book.ties, book.barred)
    for index, change in enumerate(changes):
        what = change_fault(changed, change)
        if what is not None:
            raise BadChange(index, what)
        changed = changed_by(changed, change)
    return changed


def change_fault(book, change):
    """Return None if the change can be made, else the first word that applies."""
    if not is_sequence(change) or len(change) != 4 or change[0] not in (BAR, LET):
        return "change"
    if not is_three(book.ties, change[1:]):
        return "three"
    if is_needless(book, change):
        return "needless"
    return None


def is_needless(book, change):
    """Return whether the book is already as the change would make it."""
    word, p, q, r = change
    return book.bars(p, q, r) == (word == BAR)


def changed_by(book, change):
    """Return the book with the change made."""
    word, p, q, r = change
    if word == BAR:
        return book.with_barred((p, q, r))
    return book.without_barred((p, q, r))
