"""Situations of a few names, and questions compared in all of them."""

from joinedguests.answers import is_yes
from joinedguests.choosing import chosen_from
from joinedguests.counts import check_hall
from joinedguests.errors import BadNames, Sentence, TooMany
from joinedguests.meaning import check_ties
from joinedguests.questions import And, Not, Or, Same, TieIs, is_name

MOST_SITUATED = 3


def all_situations(book, names):
    """Yield all situations of these names, as pairs (company, naming)."""
    _check_situated(names)
    for labels in _all_seatings(len(names)):
        for company in book.all_companies(len(set(labels))):
            yield (company, tuple(zip(names, labels)))


def yes_of(book, question):
    """Return the situations of the question's free names in which it is answered yes."""
    return tuple([(company, naming) for company, naming, yes in _all_answers(book, question) if yes])


def plain_form(book, question):
    """Return a plain question that is answered alike in all situations."""
    told = [(company, dict(naming), yes) for company, naming, yes in _all_answers(book, question)]
    if len(question.free) == 0:
        raise Sentence()
    found = _plain_question(told, chosen_from(question.free, 2))
    always = Same(question.free[0], question.free[0])
    if found is True:
        return always
    return Not(always) if found is False else found


def same_answers(book, one, other):
    """Return None, or the first situation in which two questions have unlike answers."""
    for situation, yes, other_yes in _answers_of_both(book, one, other):
        if yes != other_yes:
            return situation
    return None


def follows(book, one, other):
    """Return None, or the first situation with yes for one question and no for the other."""
    for situation, yes, other_yes in _answers_of_both(book, one, other):
        if yes and not other_yes:
            return situation
    return None


def _check_situated(names):
    for index, name in enumerate(names):
        if not is_name(name):
            raise BadNames(index, "name")
        if name in names[:index]:
            raise BadNames(index, "double")
    if len(names) > MOST_SITUATED:
        raise TooMany(len(names))


def _all_seatings(count):
    """Return the labels that so many names can have in situations, ascending."""
    found = [()]
    for _ in range(count):
        found = [labels + (label,) for labels in found for label in range(len(set(labels)) + 1)]
    return found


def _all_answers(book, question):
    """Return a list of (company, naming, answer) for all situations of the free names."""
    check_hall(book)
    check_ties(question, book.ties)
    found = []
    for company, naming in all_situations(book, question.free):
        found.append((company, naming, is_yes(book, question, company, dict(naming))))
    return found


def _answers_of_both(book, one, other):
    """Yield (situation, answer of one, answer of other) for all situations of their names."""
    check_hall(book)
    check_ties(one, book.ties)
    check_ties(other, book.ties)
    for company, naming in all_situations(book, sorted(set(one.free + other.free))):
        seats = dict(naming)
        yield ((company, naming), is_yes(book, one, company, seats), is_yes(book, other, company, seats))


def _plain_question(told, couples):
    """Return True, False or a question about the couples, as the answer is in these situations."""
    answers = [yes for _, _, yes in told]
    if all(answers):
        return True
    if not any(answers):
        return False
    x, y = couples[0]
    groups = {}
    for case in told:
        company, seats, _ = case
        tie = None if seats[x] == seats[y] else company.tie_of(seats[x], seats[y])
        groups.setdefault(tie, []).append(case)
    found = None
    for tie in groups:
        part = _plain_question(groups[tie], couples[1:])
        if part is not False:
            atom = Same(x, y) if tie is None else TieIs(x, tie, y)
            chosen = atom if part is True else And(atom, part)
            found = chosen if found is None else Or(found, chosen)
    return found
