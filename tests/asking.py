"""Slow and plain second versions of questions and their meaning, and random questions."""

from functools import lru_cache
from itertools import product

from joinedguests.errors import BadQuestion
from joinedguests.questions import And, AtLeast, Everybody, Not, Or, Same, Somebody, TieIs
from oracle import fine, first_barred, lawful, tie_in

BINDERS = ("Somebody", "Everybody", "AtLeast")


def kind(question):
    return type(question).__name__


def parts(question):
    """What a question is made of."""
    if kind(question) in ("TieIs", "Same"):
        return []
    return [question.one, question.other] if kind(question) in ("And", "Or") else [question.body]


def walked(question):
    """All subquestions, the question first, those of `one` ahead of those of `other`."""
    found = [question]
    for part in parts(question):
        found.extend(walked(part))
    return found


def free_names(question):
    """The names that are free in a question, as a set."""
    if kind(question) in ("TieIs", "Same"):
        return {question.x, question.y}
    names = set().union(*[free_names(part) for part in parts(question)])
    return names - {question.name} if kind(question) in BINDERS else names


def holds(question, backs, rows, seats):
    """Whether a question holds; seats has the place of a guest for each free name."""
    word = kind(question)
    if word == "TieIs":
        x, y = seats[question.x], seats[question.y]
        return x != y and tie_in(backs, rows, x, y) == question.tie
    if word == "Same":
        return seats[question.x] == seats[question.y]
    if word in ("Not", "And", "Or"):
        told = [holds(part, backs, rows, seats) for part in parts(question)]
        return {"Not": not told[0], "And": all(told), "Or": any(told)}[word]
    told = [holds(question.body, backs, rows, {**seats, question.name: place}) for place in range(len(rows))]
    return {"Somebody": any(told), "Everybody": all(told), "AtLeast": sum(told) >= getattr(question, "times", 0)}[word]


def together(backs, barred, row, most):
    """The number of newcomers with this row that can stand together, or `most` if there are more."""
    ties = fine(backs, barred, row, row)
    return max(count for count in range(1, most + 1) if _can_stand(backs, frozenset(barred), ties, (), count))


@lru_cache(maxsize=None)
def _can_stand(backs, barred, ties, rows, count):
    """Whether a let company of so many guests, of these ties alone, begins with these rows."""
    if len(rows) == count:
        return True
    for line in product(ties, repeat=len(rows)):
        told = rows + (line,)
        if first_barred(backs, barred, told) is None and _can_stand(backs, barred, ties, told, count):
            return True
    return False


def endless(backs, barred, row):
    """The least fine tie of a row that is a row tie, or None."""
    return next((tie for tie in fine(backs, barred, row, row) if (tie,) * 3 not in barred), None)


def answer(question, backs, barred, rows, seats):
    """The answer in the halls of a book, as [7.4] tells it."""
    word = kind(question)
    if word in ("TieIs", "Same"):
        return holds(question, backs, rows, seats)
    if word in ("Not", "And", "Or"):
        told = [answer(part, backs, barred, rows, seats) for part in parts(question)]
        return {"Not": not told[0], "And": all(told), "Or": any(told)}[word]
    known, new = cases(question.body, question.name, backs, barred, rows, seats)
    told = [yes for _, yes in known] + [yes for _, yes in new]
    if word in ("Somebody", "Everybody"):
        return any(told) if word == "Somebody" else all(told)
    total = sum(yes for _, yes in known)
    total += sum(together(backs, barred, row, question.times) for row, yes in new if yes)
    return total >= question.times


def cases(body, name, backs, barred, rows, seats):
    """The answers of the body for each other named guest, told by its place, and for each lawful row."""
    places = sorted({seats[other] for other in free_names(body) if other != name})
    part = tuple(tuple(tie_in(backs, rows, places[j], places[i]) for i in range(j)) for j in range(len(places)))
    inner = {other: places.index(seats[other]) for other in free_names(body) if other != name}
    known = [
        (place, answer(body, backs, barred, part, {**inner, name: at})) for at, place in enumerate(places)]
    new = [
        (row, answer(body, backs, barred, part + (row,), {**inner, name: len(places)}))
        for row in lawful(backs, barred, part)]
    return known, new


def random_question(chance, names, many, size, depth=3, times=5, width=4, plain=False):
    """A question of about this size with free names among these."""
    for _ in range(100):
        try:
            question = _grown(chance, list(names), many, size, depth, times, plain)
        except BadQuestion:
            continue
        if question.width <= width:
            return question
    return Same(names[0], names[0])


def _grown(chance, names, many, size, depth, times, plain):
    if size <= 1 and names:
        if chance.random() < 0.2:
            return Same(chance.choice(names), chance.choice(names))
        return TieIs(chance.choice(names), chance.randrange(many), chance.choice(names))
    word = chance.choice(("not", "and", "or", "some", "all", "least"))
    if word in ("some", "all", "least") and plain:
        word = "and"
    if not names:
        word = chance.choice(("some", "all"))
    if word in ("some", "all", "least") and depth == 0:
        word = "or"
    if word == "not":
        return Not(_grown(chance, names, many, size - 1, depth, times, plain))
    if word in ("and", "or"):
        cut = chance.randint(1, max(1, size - 2))
        one = _grown(chance, names, many, cut, depth, times, plain)
        other = _grown(chance, names, many, size - 1 - cut, depth, times, plain)
        return And(one, other) if word == "and" else Or(one, other)
    name = chance.choice("pqrst")
    body = _grown(chance, sorted(set(names) | {name}), many, size - 1, depth - 1, times, plain)
    if word == "some":
        return Somebody(name, body)
    return Everybody(name, body) if word == "all" else AtLeast(chance.randint(1, times), name, body)
