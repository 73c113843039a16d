"""Slow and plain second versions of what the package does, for the tests.

Nothing here calls a function of the package but constructors: ties among
guests are read from rows, and threes from the ties among three guests.
"""

from functools import lru_cache
from itertools import combinations, permutations, product

from joinedguests.book import Book
from joinedguests.company import Company
from joinedguests.ties import Ties

BACKS = (
    (0, 1), (1, 0),
    (0, 1, 2), (0, 2, 1), (1, 0, 2), (2, 1, 0),
    (0, 1, 2, 3), (0, 1, 3, 2), (1, 0, 3, 2), (3, 2, 1, 0), (2, 1, 0, 3),
)


def tie_in(backs, rows, j, i):
    """The tie from place j to place i of a company with these rows."""
    return rows[j][i] if i < j else backs[rows[i][j]]


def readings(backs, three):
    """All readings of a three, read off three guests in their six orders."""
    p, q, r = three
    rows = ((), (backs[p],), (backs[r], backs[q]))
    return {
        (tie_in(backs, rows, x, y), tie_in(backs, rows, y, z), tie_in(backs, rows, x, z))
        for x, y, z in permutations(range(3))
    }


def closed(backs, threes):
    """The set of these threes and all their readings."""
    return {reading for three in threes for reading in readings(backs, three)}


def classes(backs):
    """The threes that are the least of their readings, ascending."""
    many = range(len(backs))
    return [three for three in product(many, repeat=3) if three == min(readings(backs, three))]


def all_books(backs):
    """All books over ties with these backs."""
    kinds = classes(backs)
    return [
        Book(Ties(backs), [three for at, three in enumerate(kinds) if chosen >> at & 1])
        for chosen in range(2 ** len(kinds))
    ]


@lru_cache(maxsize=100)
def all_rows(backs, count):
    """The rows of all companies of so many guests, ascending."""
    many = range(len(backs))
    return tuple(product(*[list(product(many, repeat=j)) for j in range(count)]))


def first_barred(backs, barred, rows):
    """The first places i < j < k that show a barred three, or None."""
    for i, j, k in combinations(range(len(rows)), 3):
        for x, y, z in permutations((i, j, k)):
            shown = (tie_in(backs, rows, x, y), tie_in(backs, rows, y, z), tie_in(backs, rows, x, z))
            if shown in barred:
                return (i, j, k)
    return None


def let_rows(backs, barred, count):
    """The rows of all let companies of so many guests, ascending."""
    return list(_let_rows(backs, frozenset(barred), count))


@lru_cache(maxsize=4000)
def _let_rows(backs, barred, count):
    return [rows for rows in all_rows(backs, count) if first_barred(backs, barred, rows) is None]


def lawful(backs, barred, rows):
    """All rows with which a newcomer can come last, ascending."""
    return [
        row for row in product(range(len(backs)), repeat=len(rows))
        if all(
            (row[a], tie_in(backs, rows, a, b), row[b]) not in barred
            for a, b in combinations(range(len(rows)), 2)
        )
    ]


def fine(backs, barred, one, other):
    """The fine ties of two newcomers, ascending: no three of first, guest, second is barred."""
    return tuple(
        tie for tie in range(len(backs))
        if not any((p, backs[q], tie) in barred for p, q in zip(one, other))
    )


def bars(backs, barred, labels, one, other):
    """For each tie the first label of a guest that bars it, or None."""
    return tuple(
        next((label for label, p, q in zip(labels, one, other) if (p, backs[q], tie) in barred), None)
        for tie in range(len(backs))
    )


def unfine_pairs(backs, barred, count):
    """All (rows, one, other) of so many guests without a fine tie, in order."""
    found = []
    for rows in let_rows(backs, barred, count):
        news = lawful(backs, barred, rows)
        found.extend(
            (rows, one, other) for one in news for other in news if not fine(backs, barred, one, other)
        )
    return found


def search(backs, barred, most):
    """The kind of verdict, and the number of guests of the smallest clash or None.

    All let companies of at most so many guests are gone through, with any two
    lawful rows; the ties that a couple of entries bars stand in a bit mask.
    """
    many, barred = range(len(backs)), set(barred)
    full = 2 ** len(backs) - 1
    masks = [[sum(1 << t for t in many if (p, backs[e], t) in barred) for e in many] for p in many]
    kind, companies = "strict", [()]
    for count in range(most + 1):
        if count:
            companies = [rows + (row,) for rows in companies for row in lawful(backs, barred, rows)]
        for rows in companies:
            news = lawful(backs, barred, rows)
            for one in news:
                lines = [masks[p] for p in one]
                for other in news:
                    mask = 0
                    for line, entry in zip(lines, other):
                        mask |= line[entry]
                    if mask == full and one != other:
                        return "clash", count
                    if mask == full:
                        kind = "joins"
    return kind, None


def company(backs, rows, labels=None):
    """A company with these rows; its labels are 0, 1, .. if none are passed."""
    return Company(Ties(backs), list(range(len(rows))) if labels is None else labels, rows)


def chain(backs, tie, labels):
    """The company in which each guest has this tie to every later one."""
    return Company(Ties(backs), labels, [[backs[tie]] * j for j in range(len(labels))])
