"""Askings over guests of a company, and newcomers who meet them and are none of some guests."""

from joinedguests.counts import check_in_hall
from joinedguests.errors import BadRow, NotLet
from joinedguests.newcomers import fine_ties


def asking_fault(book, company, guests, row):
    """Return None for a right asking, else the first word that applies."""
    if not book.lets(company):
        raise NotLet("company")
    return _fault_of_asking(book, company, guests, row)


def widened_row(book, company, guests, row, but):
    """Return the ties of a newcomer who meets an asking and is none of `but`, or None."""
    check_in_hall(book, company)
    check_asking(book, company, guests, row, but)
    wider = widened_ties(book, company, dict(zip(guests, row)), but)
    if wider is None:
        return None
    return tuple([wider[label] for label in sorted(wider)])


def check_asking(book, company, guests, row, but):
    """Raise BadRow if this is no asking over a let company, or `but` are not guests of it."""
    what = _fault_of_asking(book, company, guests, row)
    if what is not None:
        raise BadRow(what)
    if any([label not in company for label in but]):
        raise BadRow("but")


def widened_ties(book, company, known, but):
    """Return the ties of a newcomer to the guests known and to those of `but`, or None.

    `known` has the newcomer's tie to each of some guests.
    """
    labels = sorted(set(but))
    taken = _with_likes(book, company, known, labels)
    if taken is None:
        return None
    return with_least_ties(book, company, taken, labels)


def with_least_ties(book, company, known, labels):
    """Return the known ties of a newcomer and the least fine ones to the other labels, in order."""
    ties = dict(known)
    for label in labels:
        if label not in ties:
            ties[label] = _fine_with(book, company, ties, label)[0]
    return ties


def _fault_of_asking(book, company, guests, row):
    """Return what asking_fault returns for a let company."""
    told = {}
    for label in guests:
        if label not in company:
            return "guest"
        if label in told:
            return "double"
        told[label] = True
    if len(row) != len(guests):
        return "length"
    if not all([book.ties.has(tie) for tie in row]):
        return "tie"
    known = dict(zip(guests, row))
    if book.row_fault(company.part_of(guests), [known[label] for label in sorted(known)]) is not None:
        return "lawful"
    return None


def _with_likes(book, company, known, labels):
    """Return the known ties and those to all of the labels that would be the newcomer, or None."""
    like = _first_like(company, known, labels)
    if like is None:
        return known
    for tie in _fine_with(book, company, known, like):
        found = _with_likes(book, company, {**known, like: tie}, labels)
        if found is not None:
            return found
    return None


def _first_like(company, known, labels):
    """Return the first of the labels, none of those known, with the same ties to these, or None."""
    for label in labels:
        if label not in known and all([company.tie_of(label, guest) == known[guest] for guest in known]):
            return label
    return None


def _fine_with(book, company, known, label):
    """Return the fine ties from a newcomer with the known ties to a guest."""
    return fine_ties(book, [(known[guest], company.tie_of(guest, label)) for guest in known])
