"""[10.11]: changes of books."""

import random
import unittest

from joinedguests.book import Book
from joinedguests.changes import apply_changes
from joinedguests.errors import BadChange
from joinedguests.ties import Ties
from oracle import BACKS, all_books, classes, closed


class TestChanges(unittest.TestCase):
    def test_one_change(self):
        for backs in BACKS:
            kinds = classes(backs)
            for three in kinds:
                for reading in closed(backs, [three]):
                    empty, full = Book(Ties(backs)), Book(Ties(backs), kinds)
                    self.assertEqual(apply_changes(empty, [("bar",) + reading]), Book(Ties(backs), [three]))
                    self.assertEqual(
                        set(apply_changes(full, (["let", *reading],)).barred), set(full.barred) - closed(backs, [three]))

    def test_several(self):
        chance = random.Random(1)
        for backs in BACKS:
            for _ in range(30):
                book = Book(Ties(backs), [three for three in classes(backs) if chance.random() < 0.5])
                before, barred, changes = book.barred, set(book.barred), []
                for _ in range(chance.randint(0, 8)):
                    three = tuple(chance.randrange(len(backs)) for _ in range(3))
                    word = "let" if three in barred else "bar"
                    changes.append(chance.choice((tuple, list))((word, *three)))
                    readings = closed(backs, [three])
                    barred = barred - readings if word == "let" else barred | readings
                for told in (changes, tuple(changes)):
                    found = apply_changes(book, told)
                    self.assertEqual((found.ties, found.barred), (book.ties, tuple(sorted(barred))))
                self.assertEqual(book.barred, before)

    def test_no_changes(self):
        for book in all_books((0, 1)):
            self.assertEqual(apply_changes(book, ()), book)
            self.assertEqual(apply_changes(book, []), book)

    def test_there_and_back(self):
        book = Book(Ties((0, 1)))
        changes = [("bar", 0, 0, 1), ("let", 1, 0, 0), ("bar", 0, 1, 0)]
        self.assertEqual(apply_changes(book, changes), Book(Ties((0, 1)), [(0, 0, 1)]))


class TestRefused(unittest.TestCase):
    def refused(self, index, what, changes, book=None):
        with self.assertRaises(BadChange) as caught:
            apply_changes(book or Book(Ties((0, 1)), [(0, 0, 1)]), changes)
        self.assertEqual((caught.exception.index, caught.exception.what), (index, what), changes)

    def test_sequence(self):
        for changes in (None, 0, "bar", {}, {("bar", 0, 0, 0)}, {"bar": 1}, iter([])):
            self.refused(0, "sequence", changes)

    def test_change(self):
        for change in (
            None, "bar0", ("bar", 0, 0), ("bar", 0, 0, 0, 0), (), ("Bar", 0, 0, 0), (None, 0, 0, 0), (True, 0, 0, 0),
            (["bar"], 0, 0, 0), ("", 0, 0, 0), ("bar",), {"bar": 0}, (b"bar", 0, 0, 0), (0, 0, 0, "bar"),
        ):
            self.refused(0, "change", [change])
            self.refused(1, "change", [("bar", 0, 0, 0), change, None])

    def test_three(self):
        for tie in (2, -1, True, False, None, "0", 0.0, [0]):
            for three in ((tie, 0, 0), (0, tie, 0), (0, 0, tie)):
                for word in ("bar", "let"):
                    self.refused(0, "three", [(word,) + three, None])
                    self.refused(1, "three", (("bar", 1, 1, 1), [word, *three]))

    def test_needless(self):
        self.refused(0, "needless", [("bar", 0, 0, 1)])
        self.refused(0, "needless", [("bar", 1, 0, 0)])
        self.refused(0, "needless", [("let", 0, 1, 1)])
        # It counts what is so behind the changes ahead.
        self.refused(1, "needless", [("bar", 0, 1, 1), ("bar", 1, 0, 1)])
        self.refused(1, "needless", [("let", 0, 1, 0), ("let", 0, 0, 1)])
        self.refused(2, "needless", [("let", 0, 1, 0), ("bar", 0, 0, 1), ("bar", 1, 0, 0)])

    def test_the_first_one(self):
        self.refused(0, "needless", [("bar", 0, 0, 1), None])
        self.refused(1, "change", [("bar", 0, 0, 0), ("no", 9, 9, 9), ("bar", 9, 0, 0)])
        self.refused(0, "three", [("bar", 9, 0, 0), ("no", 0, 0, 0)])

    def test_readings_with_one_way_ties(self):
        book = Book(Ties((1, 0)))
        self.refused(1, "needless", [("bar", 0, 0, 1), ("bar", 1, 1, 0)], book)
        self.assertEqual(
            apply_changes(book, [("bar", 0, 0, 1), ("bar", 1, 1, 1)]), Book(Ties((1, 0)), [(0, 0, 1), (0, 0, 0)]))


if __name__ == "__main__":
    unittest.main()
