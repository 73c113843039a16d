"""How full a company is: whether its guests meet the rows over small lots."""

from joinedguests.choosing import chosen_from
from joinedguests.counts import check_hall, endless_tie_of, number_of
from joinedguests.errors import BadFullness, NotLet
from joinedguests.ties import check_backs, is_same, is_whole

MOST_LOT = 2
MOST_TIMES = 5


class Lack:
    """The result that tells: so many guests alone meet this row over these guests."""

    def __init__(self, guests, row, times):
        self.guests = guests
        self.row = row
        self.times = times

    def __eq__(self, other):
        if not isinstance(other, Lack):
            return False
        return is_same((self.guests, self.row, self.times), (other.guests, other.row, other.times))


def first_lack(book, company, r):
    """Return None if the company is r-full, else its first lack."""
    _check_let(book, company)
    _check_lot(r)
    for lack in _rarely_met(book, company, r, 1):
        return lack
    return None


def thick_lack(book, company, r, m):
    """Return None, or the first row that fewer than m guests meet, though more do in halls."""
    check_backs(book.ties, company.ties)
    check_hall(book)
    _check_let(book, company)
    _check_lot(r)
    if not is_whole(m, 1, MOST_TIMES):
        raise BadFullness("m")
    for lack in _rarely_met(book, company, r, m):
        if endless_tie_of(book, lack.row) is not None or number_of(book, lack.row) > lack.times:
            return lack
    return None


def is_full(book, company, r):
    """Return whether the company is r-full."""
    return first_lack(book, company, r) is None


def _check_let(book, company):
    if not book.lets(company):
        raise NotLet("company")


def _check_lot(r):
    if not is_whole(r, 0, MOST_LOT):
        raise BadFullness("r")


def _rarely_met(book, company, r, m):
    """Yield each lawful row over a lot of at most r guests that fewer than m guests meet, as a Lack."""
    for size in range(r + 1):
        for labels in chosen_from(company.guests, size):
            met = _times_met(company, labels)
            part = company.part_of(labels)
            for row in book.lawful_rows(part):
                times = met.get(row, 0)
                if times < m:
                    yield Lack(labels, row, times)


def _times_met(company, labels):
    """Return for each row over a lot how many guests outside the lot meet it, if any do."""
    places = [company.place_of(label) for label in labels]
    met = {}
    for place, line in enumerate(company.table):
        if place not in places:
            row = tuple([line[seat] for seat in places])
            met[row] = met.get(row, 0) + 1
    return met
