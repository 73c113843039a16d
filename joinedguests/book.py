"""Books: which threes are barred, and which companies are let."""

from joinedguests.company import Company
from joinedguests.errors import BadBook, NoThree, NoTie, TooMany
from joinedguests.likeness import least_form
from joinedguests.threes import all_threes, is_couple, is_three, least_reading, readings_of
from joinedguests.ties import Ties, check_backs, is_sequence, is_whole


class Book:
    """The barred threes over some ties.

    `bar_table[p][q][r]` is True if the three (p, q, r) is barred.
    """

    def __init__(self, ties, barred=()):
        _check_threes(ties, barred, "barred")
        self.ties = ties
        self.barred = _with_readings(ties, barred)
        self.least_barred = tuple([three for three in self.barred if three == least_reading(ties, three)])
        self.bar_table = _bar_table(ties, self.barred)

    @staticmethod
    def letting(ties, threes):
        """Return the book that lets these threes with their readings alone."""
        _check_threes(ties, threes, "threes")
        return Book(ties, _but(all_threes(ties), _with_readings(ties, threes)))

    def __eq__(self, other):
        return isinstance(other, Book) and self.ties == other.ties and self.barred == other.barred

    def __or__(self, other):
        check_backs(self.ties, other.ties)
        return Book(self.ties, self.barred + other.barred)

    def __and__(self, other):
        check_backs(self.ties, other.ties)
        return Book(self.ties, [three for three in self.barred if three in other.barred])

    def bars(self, p, q, r):
        """Return whether the three (p, q, r) is barred."""
        self._check_each((p, q, r))
        return self.bar_table[p][q][r]

    def fitting(self, p, q):
        """Return the ties r with (p, q, r) let, ascending."""
        self._check_each((p, q))
        barred = self.bar_table[p][q]
        return tuple([r for r in range(self.ties.many) if not barred[r]])

    def barring(self, t):
        """Return the couples (p, q) with (p, q, t) barred, ascending."""
        self._check_each((t,))
        return tuple([(p, q) for p, q, r in self.barred if r == t])

    def company_fault(self, company):
        """Return None for a let company, else the first labels that show a barred three."""
        check_backs(self.ties, company.ties)
        places = _first_barred(self.bar_table, company.table)
        if places is None:
            return None
        return tuple([company.guests[place] for place in places])

    def lets(self, company):
        """Return whether no guests of a company show a barred three."""
        return self.company_fault(company) is None

    def lawful_rows(self, company):
        """Yield all lawful rows over a company, ascending."""
        check_backs(self.ties, company.ties)
        yield from _rows_beyond(self, company.table, ())

    def row_fault(self, company, row):
        """Return None for a lawful row, else what is wrong with it."""
        check_backs(self.ties, company.ties)
        if not is_sequence(row) or len(row) != len(company):
            return "length"
        if not all([self.ties.has(tie) for tie in row]):
            return "tie"
        for i, label in enumerate(company.guests):
            for j in range(i + 1, len(row)):
                if self.bar_table[row[i]][company.table[i][j]][row[j]]:
                    return (label, company.guests[j])
        return None

    def all_companies(self, n):
        """Yield all let companies with the labels 0 to n - 1, by their rows."""
        self._check_count(n)
        yield from let_companies(self, n)

    def patterns(self, n):
        """Yield those of all_companies(n) that equal their least form."""
        for company in self.all_companies(n):
            if company == least_form(company):
                yield company

    def how_many_companies(self, n):
        """Return the number of let companies with the labels 0 to n - 1."""
        return len(list(self.all_companies(n)))

    def with_barred(self, three):
        """Return the book that bars this three besides."""
        if not is_three(self.ties, three):
            raise NoThree(three)
        return Book(self.ties, self.barred + (three,))

    def without_barred(self, three):
        """Return the book that lets this three besides."""
        return Book(self.ties, _but(self.barred, readings_of(self.ties, three)))

    def renamed_ties(self, pairs):
        """Return the book in which each tie is replaced by its name."""
        names = _names_of(self.ties, pairs)
        return Book(self.ties, [(names[p], names[q], names[r]) for p, q, r in self.barred])

    def _check_each(self, ties):
        for tie in ties:
            if not self.ties.has(tie):
                raise NoTie(tie)

    def _check_count(self, n):
        most = 5 if self.ties.many == 2 else 4
        if not is_whole(n, 0, most):
            raise TooMany(n)


def let_companies(book, n):
    """Yield what `all_companies` yields, for any whole number n."""
    if n < 1:
        yield Company(book.ties)
        return
    for company in let_companies(book, n - 1):
        for row in book.lawful_rows(company):
            yield company.with_row(n - 1, row)


def _check_threes(ties, threes, word):
    if not isinstance(ties, Ties):
        raise BadBook(0, "ties")
    if not is_sequence(threes):
        raise BadBook(0, word)
    for index, three in enumerate(threes):
        if not is_three(ties, three):
            raise BadBook(index, "three")


def _with_readings(ties, threes):
    readings = {}
    for three in threes:
        for reading in readings_of(ties, three):
            readings[reading] = True
    return tuple(sorted(readings))


def _but(threes, others):
    return [three for three in threes if three not in others]


def _bar_table(ties, barred):
    many = range(ties.many)
    return tuple([tuple([tuple([(p, q, r) in barred for r in many]) for q in many]) for p in many])


def _first_barred(bars, table):
    """Return the first places i < j < k whose guests show a barred three, or None."""
    count = len(table)
    for i in range(count):
        for j in range(i + 1, count):
            barred = bars[table[i][j]]
            for k in range(j + 1, count):
                if barred[table[j][k]][table[i][k]]:
                    return (i, j, k)
    return None


def _rows_beyond(book, table, row):
    """Yield the lawful rows that begin with the given ties."""
    if len(row) == len(table):
        yield row
        return
    for tie in range(book.ties.many):
        if _can_follow(book.bar_table, table, row, tie):
            yield from _rows_beyond(book, table, row + (tie,))


def _can_follow(bars, table, row, tie):
    place = len(row)
    for ahead, entry in enumerate(row):
        if bars[entry][table[ahead][place]][tie]:
            return False
    return True


def _names_of(ties, pairs):
    """Return the name of each tie, or raise BadBook."""
    if not is_sequence(pairs):
        raise BadBook(0, "pairs")
    names = {}
    for index, pair in enumerate(pairs):
        if not is_couple(ties, pair):
            raise BadBook(index, "pair")
        tie, name = pair
        if tie in names or name in list(names.values()):
            raise BadBook(index, "double")
        names[tie] = name
    if len(names) < ties.many:
        raise BadBook(len(names), "lacking")
    for index, (tie, name) in enumerate(pairs):
        if names[ties.back(tie)] != ties.back(name):
            raise BadBook(index, "back")
    return names
