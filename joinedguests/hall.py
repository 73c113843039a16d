"""Halls: companies of a book that grow as their rows are asked for."""

from joinedguests.company import MOST_GUESTS, Company
from joinedguests.counts import check_hall
from joinedguests.errors import Full, HallBound, NoGuest
from joinedguests.widening import check_asking, widened_ties, with_least_ties


class HallState:
    """How a hall stood; `earlier` is how it stood when the trial around it began."""

    def __init__(self, hall):
        self.company = hall.company
        self.askings = hall.askings
        self.earlier = hall.state


class Hall:
    """A company that grows, its guests with the labels 0, 1, 2 and so on as they come.

    `askings[label]` is the asking for which a guest came.
    """

    def __init__(self, book):
        check_hall(book)
        self.book = book
        self.company = Company(book.ties)
        self.askings = ()
        self.state = None

    def __len__(self):
        return len(self.company)

    def __contains__(self, label):
        return label in self.company

    def __iter__(self):
        return iter(self.company.guests)

    def __enter__(self):
        self.state = HallState(self)
        return self

    def __exit__(self, kind, value, trace):
        self.company = self.state.company
        self.askings = self.state.askings
        self.state = self.state.earlier

    def meet(self, guests, row):
        """Return the least guest that meets an asking; a newcomer comes if there is none."""
        met = self.who_meet(guests, row)
        if len(met) > 0:
            return met[0]
        return self._seat(dict(zip(guests, row)))

    def who_meet(self, guests, row):
        """Return all guests that meet an asking, ascending."""
        check_asking(self.book, self.company, guests, row, ())
        # Labels are places here; nobody has a tie to himself, so nobody passed meets the asking.
        met = []
        for label, line in enumerate(self.company.table):
            if all([line[guest] == tie for guest, tie in zip(guests, row)]):
                met.append(label)
        return tuple(met)

    def another(self, guests, row, but):
        """Return the least guest that meets an asking and is none of `but`; a newcomer may come."""
        check_asking(self.book, self.company, guests, row, but)
        met = self.who_meet(guests, row)
        for label in met:
            if label not in but:
                return label
        wider = widened_ties(self.book, self.company, dict(zip(guests, row)), but)
        if wider is None:
            raise Full(met)
        return self._seat(wider)

    def came_for(self, label):
        """Return the asking (guests, row) for which a guest came, the guests ascending."""
        if label not in self.company:
            raise NoGuest(label)
        return self.askings[label]

    def trial(self):
        """Return an object for `with`, at whose end all is as it was at its beginning."""
        # The hall itself keeps how it stood, so that trials may stand within trials.
        return self

    def stand_as(self, state):
        """Let the hall be again as it stood."""
        self.company = state.company
        self.askings = state.askings

    def _seat(self, known):
        """Let a newcomer with the known ties come, and return its label."""
        label = len(self.company)
        if label == MOST_GUESTS:
            raise HallBound()
        ties = with_least_ties(self.book, self.company, known, self.company.guests)
        row = [ties[guest] for guest in range(label)]
        guests = tuple(sorted(known))
        self.company = self.company.with_row(label, row)
        self.askings = self.askings + ((guests, tuple([known[guest] for guest in guests])),)
        return label


def tried(hall, askings):
    """Return the labels that meet returns for askings, one after another, within a trial."""
    labels = []
    with hall.trial():
        for guests, row in askings:
            labels.append(hall.meet(guests, row))
    return tuple(labels)
