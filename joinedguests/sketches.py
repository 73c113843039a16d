"""Sketches: companies of which some ties are known."""

from joinedguests.choosing import chosen_from
from joinedguests.company import Company
from joinedguests.errors import Alike, BadSketch, NoFilling, NoGuest, TooMany
from joinedguests.ties import is_label, is_sequence

MOST_LABELS = 6
MOST_UNKNOWN = 8
MOST_KNOWN = 6


class Sketch:
    """Some known ties among guests.

    `known_ties[(x, y)]` is the known tie from x to y, either way round.
    """

    def __init__(self, book, labels, known=()):
        _check_sketch(book, labels, known)
        self.book = book
        self.labels = tuple(labels)
        self.known = tuple(sorted([turned_row(book.ties, row) for row in known]))
        self.known_ties = _ties_both_ways(book.ties, self.known)

    def __eq__(self, other):
        if not isinstance(other, Sketch):
            return False
        return self.book == other.book and self.labels == other.labels and self.known == other.known

    @property
    def web(self):
        """The known couples (x, y), x < y, ascending."""
        return tuple([(x, y) for x, y, _ in self.known])

    @property
    def unknown(self):
        """All other couples (x, y), x < y, ascending."""
        return tuple([couple for couple in chosen_from(self.labels, 2) if couple not in self.known_ties])

    def tie_of(self, x, y):
        """Return the known tie from x to y, or None."""
        for label in (x, y):
            if not is_label(label) or label not in self.labels:
                raise NoGuest(label)
        if x == y:
            raise Alike(x)
        return self.known_ties.get((x, y))

    def with_known(self, x, y, tie):
        """Return the sketch with one row more."""
        return Sketch(self.book, self.labels, self.known + ((x, y, tie),))

    def only(self, rows):
        """Return the sketch with these known rows alone."""
        return Sketch(self.book, self.labels, rows)

    def filling_fault(self, company):
        """Return None for a filling, else the first word that applies."""
        if company.ties != self.book.ties or company.guests != self.labels:
            return "guests"
        if any([company.tie_of(x, y) != tie for x, y, tie in self.known]):
            return "known"
        if not self.book.lets(company):
            return "barred"
        return None

    def all_fillings(self):
        """Yield all fillings, by their ties in the order of the couples."""
        if first_barred_known(self) is None:
            for web in _webs_beyond(self.book, self.labels, self.known_ties, self.unknown):
                rows = [[web[(x, y)] for y in self.labels if y < x] for x in self.labels]
                yield Company(self.book.ties, self.labels, rows)

    def first_filling(self):
        """Return the first filling, or None."""
        for company in self.all_fillings():
            return company
        return None

    def how_many_fillings(self):
        """Return the number of fillings."""
        count = len(self.unknown)
        if count > MOST_UNKNOWN:
            raise TooMany(count)
        return len(list(self.all_fillings()))

    def possible_ties(self, x, y):
        """Return the ties from x to y that stand in some filling, ascending."""
        known = self.tie_of(x, y)
        if known is not None:
            return () if self.first_filling() is None else (known,)
        ties = range(self.book.ties.many)
        return tuple([tie for tie in ties if self.with_known(x, y, tie).first_filling() is not None])

    def sure_rows(self):
        """Return the rows of the unknown couples with one possible tie alone."""
        if self.first_filling() is None:
            raise NoFilling()
        rows = []
        for x, y in self.unknown:
            ties = self.possible_ties(x, y)
            if len(ties) == 1:
                rows.append((x, y, ties[0]))
        return tuple(rows)

    def two_fillings(self, x, y):
        """Return None, or the first fillings with the two least possible ties from x to y."""
        ties = self.possible_ties(x, y)
        if len(ties) == 0:
            raise NoFilling()
        if len(ties) == 1:
            return None
        return tuple([self.with_known(x, y, tie).first_filling() for tie in ties[:2]])

    def failing_lots(self):
        """Return the least lots of known rows that have no filling, by size, then ascending."""
        if len(self.known) > MOST_KNOWN:
            raise TooMany(len(self.known))
        failing = []
        for count in range(len(self.known) + 1):
            for lot in chosen_from(self.known, count):
                if not _has_within(lot, failing) and self.only(lot).first_filling() is None:
                    failing.append(lot)
        return tuple(failing)


def first_barred_known(sketch):
    """Return the first three labels whose couples are known and barred, or None."""
    web = sketch.known_ties
    for x, y, z in chosen_from(sketch.labels, 3):
        if (x, z) in web and not _fits(sketch.book, web, (y,), x, z, web[(x, z)]):
            return (x, y, z)
    return None


def turned_row(ties, row):
    """Return a row (x, y, tie) with the lesser label first."""
    x, y, tie = row
    return (x, y, tie) if x < y else (y, x, ties.back(tie))


def _check_sketch(book, labels, known):
    for index, thing in enumerate((labels, known)):
        if not is_sequence(thing):
            raise BadSketch(index, "sequence")
    if len(labels) > MOST_LABELS:
        raise BadSketch(MOST_LABELS, "many")
    for index, label in enumerate(labels):
        if not is_label(label) or (index > 0 and label <= labels[index - 1]):
            raise BadSketch(index, "label")
    _check_known(book, labels, known)


def _check_known(book, labels, known):
    told = {}
    for index, row in enumerate(known):
        if not is_sequence(row) or len(row) != 3:
            raise BadSketch(index, "row")
        x, y, tie = row
        if not is_label(x) or not is_label(y) or x not in labels or y not in labels or x == y:
            raise BadSketch(index, "couple")
        if not book.ties.has(tie):
            raise BadSketch(index, "tie")
        if (x, y) in told:
            raise BadSketch(index, "twice")
        told[(x, y)] = True
        told[(y, x)] = True


def _ties_both_ways(ties, rows):
    both = {}
    for x, y, tie in rows:
        both[(x, y)] = tie
        both[(y, x)] = ties.back(tie)
    return both


def _has_within(lot, lots):
    """Return whether one of the lots stands within this lot."""
    return any([all([row in lot for row in lesser]) for lesser in lots])


def _fits(book, web, labels, x, y, tie):
    """Return whether a tie makes no barred three with the ties that x and y have to these labels."""
    for z in labels:
        if (x, z) in web and (z, y) in web and book.bar_table[web[(x, z)]][web[(z, y)]][tie]:
            return False
    return True


def _webs_beyond(book, labels, web, couples):
    """Yield all let webs of ties with these couples besides, by the ties of the couples."""
    if len(couples) == 0:
        yield web
        return
    x, y = couples[0]
    for tie in range(book.ties.many):
        if _fits(book, web, labels, x, y, tie):
            wider = {**web, (x, y): tie, (y, x): book.ties.back(tie)}
            yield from _webs_beyond(book, labels, wider, couples[1:])
