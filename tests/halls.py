"""Slow and plain second halls, and companies and askings at random."""

from itertools import combinations, product

from joinedguests.book import Book
from joinedguests.hall import Hall
from joinedguests.ties import Ties
from joinedguests.verdict import joins
from oracle import BACKS, all_books, company, fine, lawful, tie_in

# Joins, but not strictly: couples of guests; halls of four, four and three guests; threes of guests in a ring.
COUPLES = Book(Ties((0, 1)), [(0, 0, 1), (0, 0, 0)])
FOUR = Book(Ties((0, 1)), [(0, 0, 0), (0, 0, 1), (1, 1, 1)])
OTHER_FOUR = Book(Ties((0, 1)), [(0, 0, 0), (0, 1, 1), (1, 1, 1)])
THREE = Book(Ties((1, 0)), [(0, 0, 0)])
FREE = Book(Ties((0, 1)))
CLUMPS = Book(Ties((0, 1)), [(0, 0, 1)])
# No tie is a row tie, and three ties are fine over nobody.
WIDE = Book(Ties((1, 0, 2)), [(0, 0, 0), (0, 0, 2), (0, 2, 2), (2, 2, 2)])
CLASHES = Book(Ties((0, 1)), [(0, 0, 0), (1, 1, 1)])


def joined_books():
    """Books that join: all of two ties, some of three and of four."""
    books = all_books((0, 1)) + all_books((1, 0)) + all_books((0, 2, 1))[::3] + all_books((0, 1, 2))[::17]
    books += [WIDE] + [Book(Ties(backs)) for backs in BACKS]
    return [book for book in books if joins(book)]


def random_company(chance, book, count):
    """A let company of about so many guests, with labels that leave gaps."""
    backs, barred = book.ties.backs, set(book.barred)
    rows = ()
    for _ in range(count):
        news = lawful(backs, barred, rows)
        if news:
            rows += (chance.choice(news),)
    return company(backs, rows, sorted(chance.sample(range(20), len(rows))))


def tie_of(told, x, y):
    """The tie from guest x to guest y, read from the rows."""
    places = told.guests.index(x), told.guests.index(y)
    return tie_in(told.ties.backs, told.rows, *places)


def rows_among(told, labels):
    """The rows of the part of a company with these guests, ascending."""
    labels = sorted(labels)
    return tuple(tuple(tie_of(told, y, x) for x in labels if x < y) for y in labels)


def lawful_over(book, told, labels):
    """All lawful rows over these guests, in the order of the labels, ascending."""
    return lawful(book.ties.backs, set(book.barred), rows_among(told, labels))


def random_asking(chance, book, told, most):
    """Some guests in any order, and a lawful row over them in this order, or None."""
    labels = chance.sample(told.guests, chance.randint(0, min(most, len(told.guests))))
    news = lawful_over(book, told, labels)
    if not news:
        return None
    ties = dict(zip(sorted(labels), chance.choice(news)))
    return labels, [ties[label] for label in labels]


def grown(chance, book, count):
    """A hall after so many askings at random."""
    hall = Hall(book)
    for _ in range(count):
        asked = random_asking(chance, book, hall.company, 3)
        if asked is not None:
            hall.meet(*asked)
    return hall


class PlainBound(Exception):
    """A plain hall has sixty guests and would need one more."""


class PlainHall:
    """A slow second hall: the ties of each guest to those ahead, and what each one came for."""

    def __init__(self, book):
        self.book, self.backs, self.barred = book, book.ties.backs, set(book.barred)
        self.rows, self.askings = (), ()

    def tie(self, x, y):
        return tie_in(self.backs, self.rows, x, y)

    def who_meet(self, guests, row):
        return [
            label for label in range(len(self.rows)) if label not in guests
            and all(self.tie(label, guest) == tie for guest, tie in zip(guests, row))]

    def least_ties(self, known):
        """The known ties, and the least fine ones to all others, one after another."""
        known = dict(known)
        for label in range(len(self.rows)):
            if label not in known:
                ones, others = zip(*[(tie, self.tie(label, guest)) for guest, tie in known.items()]) if known else ((), ())
                known[label] = fine(self.backs, self.barred, ones, others)[0]
        return known

    def seat(self, known):
        if len(self.rows) == 60:
            raise PlainBound()
        asked = sorted(known)
        ties = self.least_ties(known)
        self.rows += (tuple(ties[label] for label in range(len(self.rows))),)
        self.askings += ((tuple(asked), tuple(known[label] for label in asked)),)
        return len(self.rows) - 1

    def meet(self, guests, row):
        met = self.who_meet(guests, row)
        return met[0] if met else self.seat(dict(zip(guests, row)))

    def wider(self, known, labels):
        """All rows over these labels and those known, ascending, with the ties that are known."""
        labels = sorted(set(known) | set(labels))
        found = []
        for row in product(*[(known[label],) if label in known else range(len(self.backs)) for label in labels]):
            threes = ((a, b) for a, b in combinations(range(len(labels)), 2))
            if not any((row[a], self.tie(labels[a], labels[b]), row[b]) in self.barred for a, b in threes):
                found.append(dict(zip(labels, row)))
        return found

    def grow_round(self, size):
        """Ask for each lawful row over each lot of at most so many guests."""
        there = range(len(self.rows))
        for count in range(size + 1):
            for lot in combinations(there, count):
                rows = tuple(tuple(self.tie(y, x) for x in lot if x < y) for y in lot)
                for row in lawful(self.backs, self.barred, rows):
                    self.meet(lot, row)

    @property
    def company(self):
        return company(self.backs, self.rows)
