"""Ties between guests, and what a number, a label and a sequence are."""

from joinedguests.errors import BadTies, NoTie, OtherTies

MOST_TIES = 4
MOST_LABEL = 10 ** 9


def is_whole(thing, low, high):
    """Return whether a thing is a whole number from low to high."""
    # True and False are ints to Python, but no numbers here.
    return isinstance(thing, int) and not isinstance(thing, bool) and low <= thing <= high


def is_label(thing):
    """Return whether a thing is a label."""
    return is_whole(thing, 0, MOST_LABEL)


def is_sequence(thing):
    """Return whether a thing is a list or a tuple."""
    return isinstance(thing, (list, tuple))


def is_same(one, other):
    """Return whether two things are equal; True and False equal no number."""
    if isinstance(one, bool) or isinstance(other, bool):
        return isinstance(one, bool) and isinstance(other, bool) and one == other
    if isinstance(one, tuple) and isinstance(other, tuple):
        return _are_same(one, other)
    if isinstance(one, list) and isinstance(other, list):
        return _are_same(one, other)
    return one == other


def _are_same(ones, others):
    if len(ones) != len(others):
        return False
    return all([is_same(one, other) for one, other in zip(ones, others)])


def check_backs(one, other):
    """Raise OtherTies if two Ties have unlike backs."""
    if one.backs != other.backs:
        raise OtherTies()


class Ties:
    """A number of ties, and for each of them its back."""

    def __init__(self, backs):
        what = ties_fault(backs)
        if what is not None:
            raise BadTies(what)
        self.backs = tuple(backs)
        self.many = len(self.backs)

    def __eq__(self, other):
        return isinstance(other, Ties) and self.backs == other.backs

    def has(self, thing):
        """Return whether a thing is one of these ties."""
        return is_whole(thing, 0, self.many - 1)

    def back(self, tie):
        """Return the tie of the same two guests the other way round."""
        if not self.has(tie):
            raise NoTie(tie)
        return self.backs[tie]

    def one_way(self, tie):
        """Return whether the back of a tie is another tie."""
        return self.back(tie) != tie


def ties_fault(backs):
    """Return None if the backs make Ties, else the first word of BadTies that applies."""
    if not is_sequence(backs):
        return "row"
    many = len(backs)
    if not 2 <= many <= MOST_TIES:
        return "count"
    if not all([is_whole(back, 0, many - 1) for back in backs]):
        return "tie"
    if not all([backs[backs[tie]] == tie for tie in range(many)]):
        return "back"
    return None
