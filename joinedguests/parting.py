"""Questions that hold in one company and not in another one."""

from joinedguests.choosing import chosen_from
from joinedguests.errors import BadDepth, NoGuest, TooMany, Unnamed
from joinedguests.meaning import told_labels
from joinedguests.questions import And, Not, Same, Somebody, TieIs
from joinedguests.shapes import spare_names
from joinedguests.ties import check_backs, is_whole

MOST_NAMES = 2
MOST_PARTED = 6
MOST_BINDERS = 2


def parting_question(one, one_naming, other, other_naming, depth):
    """Return a question that parts two companies with namings of the same names, or None."""
    check_backs(one.ties, other.ties)
    ones = told_labels(one_naming)
    others = told_labels(other_naming)
    _check_named(one, ones, other, others)
    for count, most in ((len(ones), MOST_NAMES), (len(one), MOST_PARTED), (len(other), MOST_PARTED)):
        if count > most:
            raise TooMany(count)
    if not is_whole(depth, 0, MOST_BINDERS):
        raise BadDepth(depth)
    return _parting(one, ones, other, others, spare_names(depth, list(ones)))


def _check_named(one, ones, other, others):
    """Raise an error if two namings give unlike names, or name somebody who is no guest."""
    for name in sorted(set(list(ones) + list(others))):
        if name not in ones or name not in others:
            raise Unnamed(name)
    for company, seats in ((one, ones), (other, others)):
        for name in seats:
            if seats[name] not in company:
                raise NoGuest(seats[name])


def _parting(one, ones, other, others, spare):
    """Return a question that parts with binders of the spare names alone, or None.

    `ones` and `others` have the label of the guest for each name.
    """
    atom = _parting_atom(one, ones, other, others)
    if atom is not None or len(spare) == 0:
        return atom
    found = _parting_guest(one, ones, other, others, spare)
    if found is not None:
        return found
    # What parts other from one is Not of what parts one from other.
    found = _parting_guest(other, others, one, ones, spare)
    return None if found is None else Not(found)


def _parting_atom(one, ones, other, others):
    """Return a question about two names that parts, or None."""
    for x, y in chosen_from(sorted(ones), 2):
        is_one = ones[x] == ones[y]
        if is_one != (others[x] == others[y]):
            return Same(x, y) if is_one else Not(Same(x, y))
        if not is_one:
            tie = one.tie_of(ones[x], ones[y])
            if tie != other.tie_of(others[x], others[y]):
                return TieIs(x, tie, y)
    return None


def _parting_guest(one, ones, other, others, spare):
    """Return a question about some guest of one that parts it from all guests of other, or None."""
    for guest in one:
        found = _parting_from_all(one, {**ones, spare[0]: guest}, other, others, spare)
        if found is not None:
            return Somebody(spare[0], found)
    return None


def _parting_from_all(one, ones, other, others, spare):
    """Return a question that parts, whoever of other has the first spare name, or None."""
    found = None
    for guest in other:
        told = _parting(one, ones, other, {**others, spare[0]: guest}, spare[1:])
        if told is None:
            return None
        found = told if found is None else And(found, told)
    # Over nobody any question will do that holds for the guest of one.
    return Same(spare[0], spare[0]) if found is None else found
