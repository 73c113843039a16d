"""Lots chosen from things in order."""


def chosen_from(things, count):
    """Return all tuples of so many of the things, each in their order, ascending by places."""
    if count == 0:
        return [()]
    lots = []
    for place, first in enumerate(things):
        for rest in chosen_from(things[place + 1:], count - 1):
            lots.append((first,) + rest)
    return lots
