"""How large the companies of a book can be."""

from joinedguests.errors import TooWide
from joinedguests.ties import is_same


class Endless:
    """The result that tells: endlessly many, along this tie."""

    def __init__(self, tie):
        self.tie = tie

    def __eq__(self, other):
        return isinstance(other, Endless) and is_same(self.tie, other.tie)


def row_tie_of(book):
    """Return the least tie t with (t, t, t) let, or None."""
    for tie in range(book.ties.many):
        if not book.bars(tie, tie, tie):
            return tie
    return None


def free_ties(book):
    """Return the ties that stand at no place of a barred three, ascending."""
    return tuple([tie for tie in range(book.ties.many) if not any([tie in three for three in book.barred])])


def greatest_company(book):
    """Return Endless with the least row tie, or the first of the greatest companies."""
    tie = row_tie_of(book)
    if tie is not None:
        return Endless(tie)
    if book.ties.many > 2:
        raise TooWide()
    # Of six guests three always show one tie, or a row of one-way ties.
    greatest = None
    for count in range(6):
        for company in book.all_companies(count):
            greatest = company
            break
    return greatest
