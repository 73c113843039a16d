"""Webs of known couples peeled, and sketches filled in the contrary order."""

from joinedguests.book import Book
from joinedguests.choosing import chosen_from
from joinedguests.company import Company
from joinedguests.errors import BadRing, KnownBarred, NoOrder, NotStrict
from joinedguests.merging import merge
from joinedguests.sketches import MOST_LABELS, Sketch, first_barred_known
from joinedguests.ties import Ties, is_same, is_sequence, is_whole
from joinedguests.verdict import joins_strictly

LEAST_RING = 4


class Order:
    """The result that tells: all guests can be peeled in this order."""

    def __init__(self, labels):
        self.labels = labels

    def __eq__(self, other):
        return isinstance(other, Order) and is_same(self.labels, other.labels)


class Ring:
    """The result that tells: these guests stand in a ring, so not all can be peeled."""

    def __init__(self, labels):
        self.labels = labels

    def __eq__(self, other):
        return isinstance(other, Ring) and is_same(self.labels, other.labels)


def peel(sketch):
    """Return the Order in which a sketch's web is peeled, or its least Ring."""
    web = sketch.known_ties
    left = sketch.labels
    order = ()
    while len(left) > 0:
        label = _first_peelable(web, left)
        if label is None:
            return Ring(_least_ring(web, sketch.labels))
        order = order + (label,)
        left = tuple([other for other in left if other != label])
    return Order(order)


def fill_by_peeling(sketch):
    """Return a filling, put together in the contrary order of peeling."""
    book = sketch.book
    if not joins_strictly(book):
        raise NotStrict()
    peeled = peel(sketch)
    if isinstance(peeled, Ring):
        raise NoOrder(peeled.labels)
    barred = first_barred_known(sketch)
    if barred is not None:
        raise KnownBarred(barred)
    whole = Company(book.ties)
    for label in peeled.labels[::-1]:
        near = [other for other in whole if (label, other) in sketch.known_ties]
        row = [sketch.known_ties[(label, other)] for other in near]
        whole = merge(book, whole, whole.part_of(near).with_row(label, row)).company
    return whole


def clumps_book():
    """Return the book of clumps: tie 0 within each clump, tie 1 between two."""
    return Book(Ties((0, 1)), [(0, 0, 1)])


def unfillable(labels, couples):
    """Return None if this web can be peeled, else a sketch of it that has no filling."""
    peeled = peel(_clumps_sketch(labels, couples, ()))
    if isinstance(peeled, Order):
        return None
    return _clumps_sketch(labels, couples, peeled.labels)


def ring_sketch(n):
    """Return the sketch without a filling whose web is a ring of so many guests."""
    if not is_whole(n, LEAST_RING, MOST_LABELS):
        raise BadRing(n)
    steps = [(k, k + 1) for k in range(n - 1)]
    return unfillable(list(range(n)), steps + [(0, n - 1)])


def _first_peelable(web, labels):
    """Return the least of the labels that can be peeled, or None."""
    for label in labels:
        near = [other for other in labels if (label, other) in web]
        if all([couple in web for couple in chosen_from(near, 2)]):
            return label
    return None


def _least_ring(web, labels):
    """Return the ring with the fewest guests, of these the least, or None."""
    # In ascending order, what is found first begins with its least label and has the lesser
    # of its neighbours as the second one.
    for count in range(LEAST_RING, len(labels) + 1):
        for first in labels:
            ring = _ring_beyond(web, labels, (first,), count)
            if ring is not None:
                return ring
    return None


def _ring_beyond(web, labels, path, count):
    """Return the first ring of so many guests that begins with these, or None."""
    if len(path) == count:
        return path
    is_last = len(path) + 1 == count
    neighbours = (path[0], path[-1]) if is_last else path[-1:]
    for label in labels:
        near = tuple([other for other in path if (label, other) in web])
        if label not in path and near == neighbours:
            ring = _ring_beyond(web, labels, path + (label,), count)
            if ring is not None:
                return ring
    return None


def _clumps_sketch(labels, couples, ring):
    """Return the sketch with tie 0 along a ring, but for its first and last label, and else tie 1."""
    return Sketch(clumps_book(), labels, _clumps_rows(couples, ring))


def _clumps_rows(couples, ring):
    # What makes no rows is handed on, so that the sketch refuses it.
    if not is_sequence(couples):
        return couples
    steps = list(zip(ring, ring[1:]))
    rows = []
    for couple in couples:
        if not is_sequence(couple) or len(couple) != 2:
            rows.append(())
        else:
            x, y = couple
            rows.append((x, y, 0 if (x, y) in steps or (y, x) in steps else 1))
    return rows
