"""Lots chosen from things in order, and tuples of numbers."""


def chosen_from(things, count):
    """Return all tuples of so many of the things, each in their order, ascending by places."""
    if count == 0:
        return [()]
    lots = []
    for place, first in enumerate(things):
        for rest in chosen_from(things[place + 1:], count - 1):
            lots.append((first,) + rest)
    return lots


def tuples_below(count, many):
    """Yield all tuples of so many whole numbers from 0 to many - 1, ascending."""
    if count == 0:
        yield ()
        return
    for ahead in tuples_below(count - 1, many):
        for number in range(many):
            yield ahead + (number,)
