"""Facts: known ties that are heard, forgotten and put right."""

from joinedguests.errors import BadFact, NoFilling, NotTrue
from joinedguests.sketches import Sketch, turned_row
from joinedguests.ties import is_label


class FactsState:
    """How facts stood when a trial began; `earlier` is how they stood at the trial around it."""

    def __init__(self, facts):
        self.heard = facts.heard
        self.calls = facts.calls
        self.earlier = facts.state


class Facts:
    """Facts about the ties among some guests, in the order in which they were heard."""

    def __init__(self, book, labels):
        self.bare = Sketch(book, labels)
        if self.bare.first_filling() is None:
            raise NoFilling()
        self.heard = ()
        self.calls = ()
        self.state = None

    def __len__(self):
        return len(self.heard)

    def __iter__(self):
        return iter(self.heard)

    def __enter__(self):
        self.state = FactsState(self)
        return self

    def __exit__(self, kind, value, trace):
        self.heard = self.state.heard
        self.calls = self.state.calls
        self.state = self.state.earlier

    @property
    def rows(self):
        """The facts as rows (x, y, tie), x < y."""
        return self.heard

    @rows.setter
    def rows(self, value):
        # Facts change by their calls alone; other classes give an attribute this name.
        raise AttributeError("the rows of facts are not assigned")

    @property
    def sketch(self):
        """The sketch with the facts as known rows."""
        return self.bare.only(self.heard)

    @property
    def log(self):
        """One entry for each call that was not refused."""
        return self.calls

    def hear(self, x, y, tie):
        """Add a fact."""
        row = self._row(x, y, tie)
        if self._fact_about(row) is not None:
            raise BadFact("known")
        self._tell("hear", row, self.heard)

    def forget(self, x, y):
        """Take a fact away."""
        self._check_couple(x, y)
        fact = self._fact_about((min(x, y), max(x, y)))
        if fact is None:
            raise BadFact("unknown")
        self.heard = _but_row(self.heard, fact)
        self.calls = self.calls + (("forget",) + fact,)

    def put_right(self, x, y, tie):
        """Put a tie in the place of a known one."""
        row = self._row(x, y, tie)
        fact = self._fact_about(row)
        if fact is None:
            raise BadFact("unknown")
        self._tell("put_right", row, _but_row(self.heard, fact))

    def trial(self):
        """Return an object for `with`, at whose end all is as it was at its beginning."""
        # The facts themselves keep how they stood, so that trials may stand within trials.
        return self

    def tried(self, call):
        """Return what a function returns for the facts within a trial."""
        with self.trial():
            return call(self)

    def _check_couple(self, x, y):
        for label in (x, y):
            if not is_label(label) or label not in self.bare.labels:
                raise BadFact("guest")
        if x == y:
            raise BadFact("same")

    def _row(self, x, y, tie):
        """Return the row of a fact, the lesser label first, or raise BadFact."""
        self._check_couple(x, y)
        ties = self.bare.book.ties
        if not ties.has(tie):
            raise BadFact("tie")
        return turned_row(ties, (x, y, tie))

    def _fact_about(self, row):
        """Return the fact about the couple with which a row begins, or None."""
        for fact in self.heard:
            if fact[:2] == row[:2]:
                return fact
        return None

    def _tell(self, word, row, others):
        """Add a row to the other facts, or raise NotTrue."""
        told = others + (row,)
        if not self._can_hold(told):
            raise NotTrue(self._least_failing(told))
        self.heard = told
        self.calls = self.calls + ((word,) + row,)

    def _can_hold(self, rows):
        return self.bare.only(rows).first_filling() is not None

    def _least_failing(self, rows):
        """Return facts that can not hold together, of which none can be left out."""
        kept = rows
        for row in rows:
            fewer = _but_row(kept, row)
            if not self._can_hold(fewer):
                kept = fewer
        return kept


def _but_row(rows, row):
    return tuple([other for other in rows if other != row])
