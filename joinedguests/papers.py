"""Papers that show what the halls of a book answer."""

from joinedguests.answers import cases_of, is_yes, seats_of
from joinedguests.counts import check_in_hall
from joinedguests.errors import NoPaper
from joinedguests.questions import And, Not, Or, Same, Somebody, TieIs
from joinedguests.shapes import has_at_least
from joinedguests.ties import is_label

YES = "yes"
NO = "no"


def paper_of(book, question, company, naming):
    """Return a paper with the word that the halls of the book answer."""
    seats = _checked_seats(book, question, company, naming)
    part = _inner_part(book, question, company, seats, True)
    if part is not None:
        return (YES, part)
    return (NO, _inner_part(book, question, company, seats, False))


def paper_fault(book, question, company, naming, paper):
    """Return None for a right paper, else a pair (what, path) of its first fault."""
    seats = _checked_seats(book, question, company, naming)
    for word in (YES, NO):
        if _has_form(paper, word, 2):
            return _fault_of_part(book, question, company, seats, word == YES, paper[1], ())
    return ("form", ())


def _checked_seats(book, question, company, naming):
    check_in_hall(book, company)
    if has_at_least(question):
        raise NoPaper()
    return seats_of(question, company, naming)


def _inner_part(book, question, company, seats, yes):
    """Return an inner part for the word, or None if the word is not the answer."""
    if isinstance(question, (TieIs, Same)):
        return ("plain",) if is_yes(book, question, company, seats) == yes else None
    if isinstance(question, Not):
        part = _inner_part(book, question.body, company, seats, not yes)
        return None if part is None else ("not", part)
    if isinstance(question, (And, Or)):
        return _inner_part_of_two(book, question, company, seats, yes)
    if isinstance(question, Somebody) == yes:
        return _inner_part_by_one(book, question, company, seats, yes)
    return _inner_part_by_all(book, question, company, seats, yes)


def _inner_part_of_two(book, question, company, seats, yes):
    one = _inner_part(book, question.one, company, seats, yes)
    needs_both = isinstance(question, And) == yes
    if one is None and needs_both:
        return None
    if one is not None and not needs_both:
        return ("left", one)
    other = _inner_part(book, question.other, company, seats, yes)
    if other is None:
        return None
    return ("both", one, other) if needs_both else ("right", other)


def _inner_part_by_one(book, question, company, seats, yes):
    for row, wider, inner in cases_of(book, question.body, question.name, company, seats):
        part = _inner_part(book, question.body, wider, inner, yes)
        if part is not None:
            return ("one", inner[question.name], part) if row is None else ("row", row, part)
    return None


def _inner_part_by_all(book, question, company, seats, yes):
    firsts = []
    lasts = []
    for row, wider, inner in cases_of(book, question.body, question.name, company, seats):
        part = _inner_part(book, question.body, wider, inner, yes)
        if part is None:
            return None
        if row is None:
            firsts.append(part)
        else:
            lasts.append(part)
    return ("all", tuple(firsts), tuple(lasts))


def _has_form(part, word, length):
    """Return whether a thing is a tuple of this length that begins with this word."""
    if not isinstance(part, tuple) or len(part) != length:
        return False
    return isinstance(part[0], str) and part[0] == word


def _fault_of_part(book, question, company, seats, yes, part, path):
    """Return None for a right inner part for the word, else its first fault."""
    if isinstance(question, (TieIs, Same)):
        if not _has_form(part, "plain", 1):
            return ("form", path)
        return None if is_yes(book, question, company, seats) == yes else ("plain", path)
    if isinstance(question, Not):
        if not _has_form(part, "not", 2):
            return ("form", path)
        return _fault_of_part(book, question.body, company, seats, not yes, part[1], path + (0,))
    if isinstance(question, (And, Or)):
        return _fault_of_two(book, question, company, seats, yes, part, path)
    if isinstance(question, Somebody) == yes:
        return _fault_of_one(book, question, company, seats, yes, part, path)
    return _fault_of_all(book, question, company, seats, yes, part, path)


def _fault_of_two(book, question, company, seats, yes, part, path):
    if isinstance(question, And) == yes:
        if not _has_form(part, "both", 3):
            return ("form", path)
        fault = _fault_of_part(book, question.one, company, seats, yes, part[1], path + (0,))
        if fault is not None:
            return fault
        return _fault_of_part(book, question.other, company, seats, yes, part[2], path + (1,))
    if _has_form(part, "left", 2):
        return _fault_of_part(book, question.one, company, seats, yes, part[1], path + (0,))
    if _has_form(part, "right", 2):
        return _fault_of_part(book, question.other, company, seats, yes, part[1], path + (1,))
    return ("form", path)


def _fault_of_one(book, question, company, seats, yes, part, path):
    by_row = _has_form(part, "row", 3)
    if not by_row and not _has_form(part, "one", 3):
        return ("form", path)
    for row, wider, inner in cases_of(book, question.body, question.name, company, seats):
        told = inner[question.name] if row is None else row
        if by_row == (row is not None) and _is_told(book, part[1], told):
            return _fault_of_part(book, question.body, wider, inner, yes, part[2], path + (0,))
    return ("row" if by_row else "guest", path)


def _is_told(book, thing, told):
    """Return whether a thing is this label or this row."""
    if not isinstance(told, tuple):
        return is_label(thing) and thing == told
    if not isinstance(thing, tuple) or not all([book.ties.has(tie) for tie in thing]):
        return False
    return thing == told


def _fault_of_all(book, question, company, seats, yes, part, path):
    if not _has_form(part, "all", 3) or not isinstance(part[1], tuple) or not isinstance(part[2], tuple):
        return ("form", path)
    cases = list(cases_of(book, question.body, question.name, company, seats))
    known = len([row for row, _, _ in cases if row is None])
    if len(part[1]) != known or len(part[2]) != len(cases) - known:
        return ("missing", path)
    for place, (_, wider, inner) in enumerate(cases):
        held = (part[1] + part[2])[place]
        fault = _fault_of_part(book, question.body, wider, inner, yes, held, path + (place,))
        if fault is not None:
            return fault
    return None
