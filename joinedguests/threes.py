"""Threes of ties and their readings."""

from joinedguests.errors import NoThree
from joinedguests.ties import is_sequence


def is_three(ties, thing):
    """Return whether a thing is a three over these ties."""
    if not is_sequence(thing) or len(thing) != 3:
        return False
    return all([ties.has(tie) for tie in thing])


def is_couple(ties, thing):
    """Return whether a thing is a list or tuple of two of these ties."""
    if not is_sequence(thing) or len(thing) != 2:
        return False
    return all([ties.has(tie) for tie in thing])


def readings_of(ties, three):
    """Return the different readings of a three, ascending."""
    if not is_three(ties, three):
        raise NoThree(three)
    p, q, r = three
    p_back = ties.back(p)
    q_back = ties.back(q)
    r_back = ties.back(r)
    readings = [
        (p, q, r), (r, q_back, p), (p_back, r, q),
        (q, r_back, p_back), (r_back, p, q_back), (q_back, p_back, r_back),
    ]
    return tuple(sorted(set(readings)))


def least_reading(ties, three):
    """Return the least reading of a three."""
    return readings_of(ties, three)[0]


def all_threes(ties):
    """Return all threes over these ties, ascending."""
    many = ties.many
    return tuple([(p, q, r) for p in range(many) for q in range(many) for r in range(many)])


def reading_classes(ties):
    """Return the threes that are the least of their readings, ascending."""
    return tuple([three for three in all_threes(ties) if three == least_reading(ties, three)])
