"""Questions about the guests of a company."""

from joinedguests.errors import BadQuestion
from joinedguests.ties import MOST_TIES, is_whole

LETTERS = "abcdefghijklmnopqrstuvwxyz"
MOST_LETTERS = 6
MOST_FREE = 4
MOST_DEPTH = 3
MOST_TIMES = 5
MOST_SIZE = 200


def is_name(thing):
    """Return whether a thing is a name."""
    if not isinstance(thing, str) or not 1 <= len(thing) <= MOST_LETTERS:
        return False
    return all([letter in LETTERS for letter in thing])


def is_question(thing):
    """Return whether a thing is an object of one of the eight classes."""
    return isinstance(thing, (TieIs, Same, Not, And, Or, Somebody, Everybody, AtLeast))


class Question:
    """The base of the eight classes of questions.

    Besides what the document lists, each question has the names that its
    binders bind, `bound`, ascending and each once; its class has a `WORD`.
    """

    WORD = ""

    def __invert__(self):
        return Not(self)

    def __and__(self, other):
        return And(self, other)

    def __or__(self, other):
        return Or(self, other)


class TieIs(Question):
    """Two different guests have this tie from the first to the second."""

    WORD = "tie"

    def __init__(self, x, tie, y):
        _check_names(x, y)
        if not is_whole(tie, 0, MOST_TIES - 1):
            raise BadQuestion("tie")
        self.x = x
        self.tie = tie
        self.y = y
        self.free, self.bound, self.size, self.binders, self.depth, self.width = _measures_of_names(x, y)
        self.is_plain = True

    def __eq__(self, other):
        return isinstance(other, TieIs) and self.x == other.x and self.tie == other.tie and self.y == other.y

    def __str__(self):
        return f"{self.x}-{self.tie}-{self.y}"


class Same(Question):
    """Two names stand for one guest."""

    WORD = "same"

    def __init__(self, x, y):
        _check_names(x, y)
        self.x = x
        self.y = y
        self.free, self.bound, self.size, self.binders, self.depth, self.width = _measures_of_names(x, y)
        self.is_plain = True

    def __eq__(self, other):
        return isinstance(other, Same) and self.x == other.x and self.y == other.y

    def __str__(self):
        return f"{self.x}={self.y}"


class Not(Question):
    """The body does not hold."""

    WORD = "not"

    def __init__(self, body):
        _check_question(body)
        self.size = _size_with(body.size)
        self.body = body
        self.free = body.free
        self.bound = body.bound
        self.binders = body.binders
        self.depth = body.depth
        self.width = body.width
        self.is_plain = body.is_plain

    def __eq__(self, other):
        return isinstance(other, Not) and self.body == other.body

    def __str__(self):
        return f"not {self.body}"


class And(Question):
    """Both questions hold."""

    WORD = "and"

    def __init__(self, one, other):
        self.free, self.bound, self.size, self.binders, self.depth, self.width = _measures_of_both(one, other)
        self.one = one
        self.other = other
        self.is_plain = self.binders == 0

    def __eq__(self, other):
        return isinstance(other, And) and self.one == other.one and self.other == other.other

    def __str__(self):
        return f"({self.one} and {self.other})"


class Or(Question):
    """At least one of both questions holds."""

    WORD = "or"

    def __init__(self, one, other):
        self.free, self.bound, self.size, self.binders, self.depth, self.width = _measures_of_both(one, other)
        self.one = one
        self.other = other
        self.is_plain = self.binders == 0

    def __eq__(self, other):
        return isinstance(other, Or) and self.one == other.one and self.other == other.other

    def __str__(self):
        return f"({self.one} or {self.other})"


class Somebody(Question):
    """The body holds for some guest that the name stands for."""

    WORD = "some"

    def __init__(self, name, body):
        self.free, self.bound, self.size, self.binders, self.depth, self.width = _measures_of_binder(name, body)
        self.name = name
        self.body = body
        self.is_plain = False

    def __eq__(self, other):
        return isinstance(other, Somebody) and self.name == other.name and self.body == other.body

    def __str__(self):
        return f"some {self.name} {self.body}"


class Everybody(Question):
    """The body holds for every guest that the name stands for."""

    WORD = "all"

    def __init__(self, name, body):
        self.free, self.bound, self.size, self.binders, self.depth, self.width = _measures_of_binder(name, body)
        self.name = name
        self.body = body
        self.is_plain = False

    def __eq__(self, other):
        return isinstance(other, Everybody) and self.name == other.name and self.body == other.body

    def __str__(self):
        return f"all {self.name} {self.body}"


class AtLeast(Question):
    """The body holds for at least so many guests that the name stands for."""

    WORD = "least"

    def __init__(self, times, name, body):
        if not is_whole(times, 1, MOST_TIMES):
            raise BadQuestion("times")
        self.free, self.bound, self.size, self.binders, self.depth, self.width = _measures_of_binder(name, body)
        self.times = times
        self.name = name
        self.body = body
        self.is_plain = False

    def __eq__(self, other):
        if not isinstance(other, AtLeast) or self.times != other.times:
            return False
        return self.name == other.name and self.body == other.body

    def __str__(self):
        return f"least {self.times} {self.name} {self.body}"


def _check_names(x, y):
    if not is_name(x) or not is_name(y):
        raise BadQuestion("name")


def _check_question(thing):
    if not is_question(thing):
        raise BadQuestion("question")


def _measures_of_names(x, y):
    """Return free, bound, size, binders, depth and width of a question about two names."""
    free = _ascending((x, y))
    return (free, (), 1, 0, 0, len(free))


def _measures_of_both(one, other):
    """Return the same of a question made of two, or raise BadQuestion."""
    _check_question(one)
    _check_question(other)
    free = _ascending(one.free + other.free)
    if len(free) > MOST_FREE:
        raise BadQuestion("wide")
    size = _size_with(one.size + other.size)
    bound = _ascending(one.bound + other.bound)
    width = max(len(free), one.width, other.width)
    return (free, bound, size, one.binders + other.binders, max(one.depth, other.depth), width)


def _measures_of_binder(name, body):
    """Return the same of a binder, or raise BadQuestion."""
    if not is_name(name):
        raise BadQuestion("name")
    _check_question(body)
    if name in body.bound:
        raise BadQuestion("again")
    if body.depth == MOST_DEPTH:
        raise BadQuestion("deep")
    size = _size_with(body.size)
    free = tuple([other for other in body.free if other != name])
    bound = _ascending(body.bound + (name,))
    return (free, bound, size, body.binders + 1, body.depth + 1, body.width)


def _size_with(size):
    """Return the size of a question made of questions of this size together."""
    if size >= MOST_SIZE:
        raise BadQuestion("long")
    return size + 1


def _ascending(names):
    return tuple(sorted(set(names)))
