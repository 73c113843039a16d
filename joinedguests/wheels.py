"""Wheels: companies in a ring in which a tie hangs on the way round alone."""

from joinedguests.choosing import tuples_below
from joinedguests.company import Company
from joinedguests.errors import BadFullness, BadSpread, BadWheel, TooMany
from joinedguests.fullness import MOST_LOT, is_full
from joinedguests.ties import Ties, is_sequence, is_whole

LEAST_WHEEL = 2
MOST_WHEEL = 13


class Wheel:
    """A company in which each guest has the tie `steps[k - 1]` to the guest k places on."""

    def __init__(self, ties, steps):
        _check_wheel(ties, steps)
        self.ties = ties
        self.steps = tuple(steps)
        self.company = _company_round(ties, self.steps)

    def __len__(self):
        return len(self.company)

    def __eq__(self, other):
        return isinstance(other, Wheel) and self.ties == other.ties and self.steps == other.steps

    def spread(self, k):
        """Return the wheel in which guest i has become guest i * k, less a multiple of the count."""
        count = len(self.company)
        if not is_whole(k, 1, count - 1):
            raise BadSpread(k)
        steps = {}
        for ahead, tie in enumerate(self.steps):
            steps[(ahead + 1) * k % count] = tie
        # Only with a common divisor some guest comes round to where guest 0 stands.
        if 0 in steps:
            raise BadSpread(k)
        return Wheel(self.ties, [steps[place] for place in sorted(steps)])


def all_wheels(book, n):
    """Yield all wheels of n guests that a book lets, by their steps."""
    _check_guests(n)
    backs = book.ties.backs
    for half in tuples_below(n // 2, book.ties.many):
        # The way back round is as long as n lets it be; if n is even, half way on is half way back.
        steps = half + tuple([backs[tie] for tie in half[:(n - 1) // 2][::-1]])
        if n % 2 == 1 or not book.ties.one_way(half[-1]):
            wheel = Wheel(book.ties, steps)
            if book.lets(wheel.company):
                yield wheel


def least_wheel(book, r, most):
    """Return the first wheel of at most so many guests whose company is r-full, or None."""
    if not is_whole(r, 0, MOST_LOT):
        raise BadFullness("r")
    _check_guests(most)
    for n in range(LEAST_WHEEL, most + 1):
        for wheel in all_wheels(book, n):
            if is_full(book, wheel.company, r):
                return wheel
    return None


def climb_tie(book):
    """Return the least one-way tie t that alone fits behind t and t, or None."""
    for tie in range(book.ties.many):
        if book.ties.one_way(tie) and book.fitting(tie, tie) == (tie,):
            return tie
    return None


def _check_guests(n):
    if not is_whole(n, LEAST_WHEEL, MOST_WHEEL):
        raise TooMany(n)


def _check_wheel(ties, steps):
    if not isinstance(ties, Ties):
        raise BadWheel(0, "ties")
    if not is_sequence(steps) or not LEAST_WHEEL <= len(steps) + 1 <= MOST_WHEEL:
        raise BadWheel(0, "steps")
    for index, tie in enumerate(steps):
        if not ties.has(tie):
            raise BadWheel(index, "tie")
    for index, tie in enumerate(steps):
        if steps[len(steps) - 1 - index] != ties.back(tie):
            raise BadWheel(index, "back")


def _company_round(ties, steps):
    """Return the company of a wheel with these steps."""
    count = len(steps) + 1
    rows = [[steps[count - 1 - (j - i)] for i in range(j)] for j in range(count)]
    return Company(ties, list(range(count)), rows)
