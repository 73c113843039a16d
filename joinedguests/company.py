"""Companies: guests with one tie between any two of them."""

from joinedguests.errors import Alike, BadCompany, BadRenaming, NoGuest
from joinedguests.ties import is_label, is_sequence

MOST_GUESTS = 60


class Company:
    """Guests, told by their labels, and the ties among them.

    `table[j][i]` is the tie from the guest at place j to the guest at place i.
    """

    def __init__(self, ties, guests=(), rows=()):
        _check_company(ties, guests, rows)
        self.ties = ties
        self.guests = tuple(guests)
        self.rows = tuple([tuple(row) for row in rows])
        self.table = _table_of(ties, self.rows)
        self._places = {label: place for place, label in enumerate(self.guests)}

    def __len__(self):
        return len(self.guests)

    def __contains__(self, label):
        return is_label(label) and label in self._places

    def __iter__(self):
        return iter(self.guests)

    def __eq__(self, other):
        if not isinstance(other, Company):
            return False
        return self.ties == other.ties and self.guests == other.guests and self.rows == other.rows

    def place_of(self, label):
        """Return how many guests stand ahead of this guest."""
        if label not in self:
            raise NoGuest(label)
        return self._places[label]

    def tie_of(self, x, y):
        """Return the tie from guest x to guest y."""
        first = self.place_of(x)
        second = self.place_of(y)
        if first == second:
            raise Alike(x)
        return self.table[first][second]

    def row_of(self, label):
        """Return the ties from a guest to all others, in order."""
        place = self.place_of(label)
        line = self.table[place]
        return line[:place] + line[place + 1:]

    def part_of(self, labels):
        """Return the company of these guests alone."""
        places = sorted({self.place_of(label) for label in labels})
        return self._seated([self.guests[place] for place in places], places)

    def without(self, label):
        """Return the company of all guests but this one."""
        left_out = self.place_of(label)
        places = [place for place in range(len(self.guests)) if place != left_out]
        return self._seated([self.guests[place] for place in places], places)

    def with_row(self, label, row):
        """Return the company with a newcomer; row has its ties to the guests."""
        place = self._place_for(label)
        _check_row(self.ties, place, row, len(self.guests))
        guests = self.guests[:place] + (label,) + self.guests[place:]
        rows = list(self.rows[:place])
        rows.append(row[:place])
        for later in range(place, len(self.guests)):
            old = self.rows[later]
            rows.append(old[:place] + (self.ties.back(row[later]),) + old[place:])
        return Company(self.ties, guests, rows)

    def renamed(self, pairs):
        """Return the company with new labels, by pairs (old, new)."""
        names = _new_labels(self, pairs)
        order = sorted([(names[label], place) for place, label in enumerate(self.guests)])
        return self._seated([label for label, _ in order], [place for _, place in order])

    def _seated(self, labels, places):
        rows = [[self.table[j][i] for i in places[:ahead]] for ahead, j in enumerate(places)]
        return Company(self.ties, labels, rows)

    def _place_for(self, label):
        if len(self.guests) == MOST_GUESTS:
            raise BadCompany(MOST_GUESTS, "many")
        if not is_label(label):
            raise BadCompany(0, "label")
        if label in self:
            raise BadCompany(self.place_of(label), "label")
        return len([guest for guest in self.guests if guest < label])


def _table_of(ties, rows):
    table = [[None] * len(rows) for _ in rows]
    for j, row in enumerate(rows):
        for i, tie in enumerate(row):
            table[j][i] = tie
            table[i][j] = ties.backs[tie]
    return tuple([tuple(line) for line in table])


def _check_company(ties, guests, rows):
    if not is_sequence(guests) or not is_sequence(rows):
        raise BadCompany(0, "sequence")
    if len(guests) > MOST_GUESTS:
        raise BadCompany(MOST_GUESTS, "many")
    for index, label in enumerate(guests):
        if not is_label(label):
            raise BadCompany(index, "label")
        if index > 0 and label <= guests[index - 1]:
            raise BadCompany(index, "order")
        if index >= len(rows):
            raise BadCompany(index, "row")
        _check_row(ties, index, rows[index], index)
    if len(rows) > len(guests):
        raise BadCompany(len(guests), "rows")


def _check_row(ties, index, row, length):
    if not is_sequence(row):
        raise BadCompany(index, "row")
    if len(row) != length:
        raise BadCompany(index, "length")
    for tie in row:
        if not ties.has(tie):
            raise BadCompany(index, "tie")


def _new_labels(company, pairs):
    if not is_sequence(pairs):
        raise BadRenaming("pair")
    names = {}
    taken = {}
    for pair in pairs:
        if not is_sequence(pair) or len(pair) != 2:
            raise BadRenaming("pair")
        old, new = pair
        if old not in company or old in names:
            raise BadRenaming("guest")
        if not is_label(new) or new in taken:
            raise BadRenaming("label")
        names[old] = new
        taken[new] = True
    if len(names) < len(company):
        raise BadRenaming("guest")
    return names
