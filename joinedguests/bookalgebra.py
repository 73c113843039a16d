"""Books compared, also up to the names of their ties."""

from joinedguests.book import Book
from joinedguests.ties import check_backs


def is_within(one, other):
    """Return whether each three that other bars is barred in one, too."""
    check_backs(one.ties, other.ties)
    return all([three in one.barred for three in other.barred])


def same_up_to_names(one, other):
    """Return the least renaming of ties that makes other of one, or None."""
    check_backs(one.ties, other.ties)
    for pairs in _renamings(one.ties):
        if one.renamed_ties(pairs) == other:
            return pairs
    return None


def least_book(book):
    """Return the renamed book with the least barred threes."""
    return Book(book.ties, min([book.renamed_ties(pairs).barred for pairs in _renamings(book.ties)]))


def _renamings(ties):
    """Return all renamings of ties, ascending, each with its couples ascending."""
    orders = [()]
    for _ in range(ties.many):
        orders = [order + (name,) for order in orders for name in range(ties.many) if name not in order]
    return [tuple(enumerate(order)) for order in orders if _keeps_backs(ties, order)]


def _keeps_backs(ties, order):
    return all([order[ties.back(tie)] == ties.back(name) for tie, name in enumerate(order)])
