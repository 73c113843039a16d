"""Questions that hold in all companies of a book, or in some."""

from joinedguests.errors import NotSuch
from joinedguests.meaning import check_ties, meaning_of
from joinedguests.questions import MOST_DEPTH, And, Everybody, Not, TieIs
from joinedguests.shapes import is_existential, is_universal


def holds_everywhere(book, question):
    """Return None, or a least company of the book in which a universal question does not hold."""
    _check_sentence(book, question, is_universal(question))
    return _least_company(book, question, False)


def holds_somewhere(book, question):
    """Return a least company of the book in which an existential question holds, or None."""
    _check_sentence(book, question, is_existential(question))
    return _least_company(book, question, True)


def three_question(p, q, r):
    """Return the universal question that holds where no guests show the three (p, q, r)."""
    shown = And(And(TieIs("a", p, "b"), TieIs("b", q, "c")), TieIs("a", r, "c"))
    return Everybody("a", Everybody("b", Everybody("c", Not(shown))))


def book_questions(book):
    """Return the three_question of each of the book's least barred threes, in order."""
    return tuple([three_question(p, q, r) for p, q, r in book.least_barred])


def _check_sentence(book, question, is_fit):
    if len(question.free) > 0:
        raise NotSuch("free")
    if not is_fit:
        raise NotSuch("shape")
    check_ties(question, book.ties)


def _least_company(book, question, wanted):
    """Return a let company with the fewest guests in which the meaning is as wanted, or None."""
    # The guests for whom such a question is decided are a company that decides it, too.
    for count in range(MOST_DEPTH + 1):
        for company in book.all_companies(count):
            if meaning_of(question, company, ()) == wanted:
                return company
    return None
