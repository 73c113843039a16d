"""A bench: a book whose changes can be made, taken back and tried."""

from joinedguests.changes import apply_changes, changed_by, is_needless
from joinedguests.errors import NoNumber, Rests
from joinedguests.ties import is_whole
from joinedguests.verdict import verdict_of


class BenchState:
    """How a bench stood when a trial began; `earlier` is how it stood at the trial around it."""

    def __init__(self, bench):
        self.book = bench.book
        self.standing = bench.standing
        self.calls = bench.calls
        self.last = bench.last
        self.earlier = bench.state


class Bench:
    """A book at work: where it began, what stands of its changes, and all calls so far."""

    def __init__(self, book):
        self.start = book
        self.book = book
        self.standing = ()
        self.calls = ()
        self.last = 0
        self.state = None

    def __len__(self):
        return len(self.standing)

    def __iter__(self):
        return iter(self.standing)

    def __enter__(self):
        self.state = BenchState(self)
        return self

    def __exit__(self, kind, value, trace):
        self.book = self.state.book
        self.standing = self.state.standing
        self.calls = self.state.calls
        self.last = self.state.last
        self.state = self.state.earlier

    @property
    def log(self):
        """One entry for each call that was not refused."""
        return self.calls

    def make(self, change):
        """Make a change and return its number."""
        self.book = apply_changes(self.book, (change,))
        self.last = self.last + 1
        self.standing = self.standing + ((self.last, tuple(change)),)
        self.calls = self.calls + (("make", self.last, tuple(change)),)
        return self.last

    def take_back(self, number):
        """Take back a standing change, wherever it stands."""
        change = self._change_of(number)
        others = tuple([pair for pair in self.standing if pair[0] != number])
        self.book = _book_behind(self.start, others)
        self.standing = others
        self.calls = self.calls + (("back", number, change),)

    def verdict_now(self):
        """Return the verdict of the book as it is now."""
        return verdict_of(self.book)

    def trial(self):
        """Return an object for `with`, at whose end all is as it was at its beginning."""
        # The bench itself keeps how it stood, so that trials may stand within trials.
        return self

    def tried(self, call):
        """Return what a function returns for the bench within a trial."""
        with self.trial():
            return call(self)

    def _change_of(self, number):
        if is_whole(number, 1, self.last):
            for other, change in self.standing:
                if other == number:
                    return change
        raise NoNumber(number)


def _book_behind(book, pairs):
    """Return the book behind the changes of these pairs, or raise Rests for one that is needless."""
    for number, change in pairs:
        if is_needless(book, change):
            raise Rests(number)
        book = changed_by(book, change)
    return book
