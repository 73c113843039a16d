"""What the halls of a book answer to a question."""

from joinedguests.counts import check_in_hall, endless_tie_of, number_of, number_up_to, spare_labels
from joinedguests.errors import BadName
from joinedguests.meaning import check_ties, labels_of, labels_of_names
from joinedguests.questions import And, AtLeast, Everybody, Not, Or, Same, TieIs, is_name


def answer_of(book, question, company, naming):
    """Return whether the halls of the book answer yes."""
    check_in_hall(book, company)
    return is_yes(book, question, company, seats_of(question, company, naming))


def yes_rows(book, question, company, naming, name):
    """Return the labels of the named guests and the rows of the newcomers that answer yes."""
    seats = _seats_of_others(book, question, company, naming, name)
    return _yes_rows(book, question, company, seats, name)


def count_yes(book, question, company, naming, name):
    """Return how many guests of halls answer yes, or None if they are endless."""
    seats = _seats_of_others(book, question, company, naming, name)
    labels, rows = _yes_rows(book, question, company, seats, name)
    # Of all rows, none may be endless, before one is too wide to be counted.
    if any([endless_tie_of(book, row) is not None for row in rows]):
        return None
    return len(labels) + sum([number_of(book, row) for row in rows])


def seats_of(question, company, naming):
    """Return the label of the guest for each free name, or raise an error."""
    labels = labels_of(question, company, naming)
    check_ties(question, company.ties)
    return dict(zip(question.free, labels))


def is_yes(book, question, company, seats):
    """Return the answer; `seats` has the label of the guest for each free name."""
    if isinstance(question, TieIs):
        x = seats[question.x]
        y = seats[question.y]
        return x != y and company.tie_of(x, y) == question.tie
    if isinstance(question, Same):
        return seats[question.x] == seats[question.y]
    if isinstance(question, Not):
        return not is_yes(book, question.body, company, seats)
    if isinstance(question, And):
        return is_yes(book, question.one, company, seats) and is_yes(book, question.other, company, seats)
    if isinstance(question, Or):
        return is_yes(book, question.one, company, seats) or is_yes(book, question.other, company, seats)
    if isinstance(question, AtLeast):
        return _are_enough(book, question, company, seats)
    return _is_some_or_all(book, question, company, seats)


def cases_of(book, body, name, company, seats):
    """Yield whom a name can stand for in a body, as (row, company, seats).

    First come the other named guests, by their labels, with None as the row;
    then the newcomers over these guests alone, by their rows.
    """
    others = {other: seats[other] for other in body.free if other != name}
    part = company.part_of(list(others.values()))
    for label in part.guests:
        yield (None, part, {**others, name: label})
    newcomer = spare_labels(part, 1)[0]
    for row in book.lawful_rows(part):
        yield (row, part.with_row(newcomer, row), {**others, name: newcomer})


def _is_some_or_all(book, question, company, seats):
    """Return the answer to a Somebody or an Everybody."""
    if question.name not in question.body.free:
        return is_yes(book, question.body, company, seats)
    wanted = not isinstance(question, Everybody)
    for _, wider, inner in cases_of(book, question.body, question.name, company, seats):
        if is_yes(book, question.body, wider, inner) == wanted:
            return wanted
    return not wanted


def _are_enough(book, question, company, seats):
    """Return the answer to an AtLeast."""
    # A name that is not free need not be tried with everybody to find nobody.
    if question.name not in question.body.free and not is_yes(book, question.body, company, seats):
        return False
    total = 0
    for row, wider, inner in cases_of(book, question.body, question.name, company, seats):
        if is_yes(book, question.body, wider, inner):
            # More than the times asked for do not matter, so no row is too wide.
            total += 1 if row is None else number_up_to(book, row, question.times)
        if total >= question.times:
            return True
    return False


def _seats_of_others(book, question, company, naming, name):
    """Return the labels of the free names but one, or raise an error."""
    check_in_hall(book, company)
    if not is_name(name):
        raise BadName(name)
    others = tuple([other for other in question.free if other != name])
    labels = labels_of_names(others, company, naming)
    check_ties(question, company.ties)
    return dict(zip(others, labels))


def _yes_rows(book, question, company, seats, name):
    labels = []
    rows = []
    for row, wider, inner in cases_of(book, question, name, company, seats):
        if is_yes(book, question, wider, inner):
            if row is None:
                labels.append(inner[name])
            else:
                rows.append(row)
    return (tuple(labels), tuple(rows))
