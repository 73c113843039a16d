"""Judges of verdicts, and clashes made as small as they can be."""

from joinedguests.errors import BadClash
from joinedguests.newcomers import couples_of, fine_ties, has_like_ends
from joinedguests.verdict import clash_among


def clash_fault(book, clash):
    """Return None for a right clash of the book, else the first word that applies."""
    if not _is_let(book, clash.company):
        return "company"
    if book.row_fault(clash.company, clash.one) is not None:
        return "one"
    if book.row_fault(clash.company, clash.other) is not None:
        return "other"
    if tuple(clash.one) == tuple(clash.other):
        return "equal"
    return _witness_fault(book, clash.company, couples_of(book, clash.one, clash.other), clash.witnesses)


def joins_fault(book, told):
    """Return None for a Joins that is right for the book, else the first word that applies."""
    if not _is_let(book, told.company):
        return "company"
    if book.row_fault(told.company, told.row) is not None:
        return "row"
    return _witness_fault(book, told.company, couples_of(book, told.row, told.row), told.witnesses)


def is_least(book, clash):
    """Return whether the newcomers join as soon as any one guest is left out."""
    _check_clash(book, clash)
    couples = couples_of(book, clash.one, clash.other)
    return not any([_do_clash(book, _without(couples, place)) for place in range(len(couples))])


def reduce_clash(book, clash):
    """Return the clash without the guests that it does not need, taken in order."""
    _check_clash(book, clash)
    kept = list(zip(clash.company.guests, couples_of(book, clash.one, clash.other)))
    for label in clash.company.guests:
        fewer = [guest for guest in kept if guest[0] != label]
        if _do_clash(book, [couple for _, couple in fewer]):
            kept = fewer
    part = clash.company.part_of([label for label, _ in kept])
    return clash_among(book, part, [couple for _, couple in kept])


def _is_let(book, company):
    return company.ties == book.ties and book.lets(company)


def _witness_fault(book, company, couples, witnesses):
    if len(witnesses) != book.ties.many:
        return "count"
    for tie, witness in enumerate(witnesses):
        if witness not in company:
            return "witness"
        p, q = couples[company.place_of(witness)]
        if not book.bar_table[p][q][tie]:
            return "witness"
    return None


def _check_clash(book, clash):
    what = clash_fault(book, clash)
    if what is not None:
        raise BadClash(what)


def _without(couples, place):
    return couples[:place] + couples[place + 1:]


def _do_clash(book, couples):
    """Return whether newcomers with these couples have unlike rows and no fine tie."""
    if all([has_like_ends(book, couple) for couple in couples]):
        return False
    return fine_ties(book, couples) == ()
