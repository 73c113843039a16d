"""Halls grown by rounds, and whole halls."""

from joinedguests.choosing import chosen_from
from joinedguests.errors import BadGrowth, TooWide
from joinedguests.hall import Hall
from joinedguests.sizes import Endless, row_tie_of
from joinedguests.ties import is_whole

MOST_ROUNDS = 5
MOST_IN_LOT = 3


def grow(book, rounds, size):
    """Return a hall grown by so many rounds, with lots of at most so many guests."""
    hall = Hall(book)
    if not is_whole(rounds, 0, MOST_ROUNDS):
        raise BadGrowth("rounds")
    if not is_whole(size, 0, MOST_IN_LOT):
        raise BadGrowth("size")
    for _ in range(rounds):
        _grow_round(hall, size)
    return hall


def finish(book):
    """Return the whole hall of a book, or Endless if there is none."""
    hall = Hall(book)
    tie = row_tie_of(book)
    if tie is not None:
        return Endless(tie)
    if book.ties.many > 2:
        raise TooWide()
    before = None
    while before != len(hall):
        before = len(hall)
        _grow_round(hall, before)
    return hall


def _grow_round(hall, size):
    """Ask for each lawful row over each lot of at most so many guests that are there."""
    there = hall.company.guests
    for count in range(size + 1):
        for lot in chosen_from(there, count):
            for row in _unmet_rows(hall, lot):
                hall.meet(lot, row)


def _unmet_rows(hall, lot):
    """Return the lawful rows over a lot that nobody meets, ascending."""
    # Asking for the others brings nobody; a newcomer for one of these meets none of the rest.
    met = {}
    for line in hall.company.table:
        met[tuple([line[guest] for guest in lot])] = True
    return [row for row in hall.book.lawful_rows(hall.company.part_of(lot)) if row not in met]
