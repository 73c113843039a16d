"""[2.8]: how large the companies of a book can be."""

import unittest

from joinedguests.book import Book
from joinedguests.errors import TooWide
from joinedguests.sizes import Endless, free_ties, greatest_company, row_tie_of
from joinedguests.ties import Ties
from oracle import BACKS, all_books, chain, classes, let_rows


def some_books(backs):
    kinds = classes(backs)
    chosen = [kinds[first::step] for first in range(3) for step in (1, 2, 3, 5)]
    return [Book(Ties(backs), threes) for threes in chosen + [[], [(tie,) * 3 for tie in range(len(backs))]]]


class TestSizes(unittest.TestCase):
    def test_row_tie_of(self):
        for backs in BACKS:
            for book in some_books(backs):
                row_ties = [tie for tie in range(len(backs)) if (tie,) * 3 not in book.barred]
                self.assertEqual(row_tie_of(book), row_ties[0] if row_ties else None)

    def test_row_ties_by_hand(self):
        ties = Ties((0, 1, 2))
        self.assertEqual(row_tie_of(Book(ties)), 0)
        self.assertEqual(row_tie_of(Book(ties, [(0, 0, 0)])), 1)
        self.assertEqual(row_tie_of(Book(ties, [(0, 0, 0), (1, 1, 1)])), 2)
        self.assertIsNone(row_tie_of(Book(ties, [(0, 0, 0), (1, 1, 1), (2, 2, 2)])))
        # The readings of (0, 0, 0) with a one-way tie bar its back, too.
        self.assertIsNone(row_tie_of(Book(Ties((1, 0)), [(0, 0, 0)])))

    def test_a_row_of_the_row_tie_is_let(self):
        for backs in BACKS:
            for book in some_books(backs):
                tie = row_tie_of(book)
                if tie is not None:
                    self.assertTrue(book.lets(chain(backs, tie, list(range(12)))))

    def test_free_ties(self):
        for backs in BACKS:
            for book in some_books(backs):
                used = {tie for three in book.barred for tie in three}
                self.assertEqual(free_ties(book), tuple(sorted(set(range(len(backs))) - used)))

    def test_free_ties_by_hand(self):
        self.assertEqual(free_ties(Book(Ties((0, 1, 2)))), (0, 1, 2))
        self.assertEqual(free_ties(Book(Ties((0, 1, 2)), [(0, 0, 0)])), (1, 2))
        self.assertEqual(free_ties(Book(Ties((0, 1, 2)), [(0, 1, 1)])), (2,))
        self.assertEqual(free_ties(Book(Ties((0, 2, 1)), [(0, 0, 1)])), ())
        self.assertEqual(free_ties(Book(Ties((0, 2, 1)), [(0, 0, 0)])), (1, 2))

    def test_example(self):
        book = Book(Ties((0, 1)), [(0, 0, 0), (1, 1, 1)])
        self.assertIsNone(row_tie_of(book))
        self.assertEqual(free_ties(book), ())
        greatest = greatest_company(book)
        self.assertEqual(greatest.rows, ((), (0,), (0, 1), (1, 0, 1), (1, 1, 0, 0)))
        self.assertEqual(greatest.guests, (0, 1, 2, 3, 4))
        self.assertEqual(greatest.ties, book.ties)

    def test_greatest_company(self):
        for backs in ((0, 1), (1, 0)):
            for book in all_books(backs):
                tie = row_tie_of(book)
                if tie is not None:
                    self.assertEqual(greatest_company(book), Endless(tie))
                    continue
                greatest = [let_rows(backs, book.barred, count) for count in range(6)]
                greatest = [rows for rows in greatest if rows][-1]
                self.assertEqual(greatest_company(book).rows, greatest[0])

    def test_greatest_company_by_hand(self):
        everything = Book(Ties((0, 1)), classes((0, 1)))
        self.assertEqual(greatest_company(everything).rows, ((), (0,)))
        rings = Book(Ties((1, 0)), [(0, 0, 0)])
        self.assertEqual(greatest_company(rings).rows, ((), (0,), (1, 0)))

    def test_endless_ahead_of_too_wide(self):
        for backs in ((0, 1, 2), (0, 1, 2, 3)):
            book = Book(Ties(backs), [(0, 0, 0)])
            self.assertEqual(greatest_company(book), Endless(1))
        self.assertEqual(greatest_company(Book(Ties((0, 2, 1)), [(0, 0, 0)])).tie, 1)

    def test_too_wide(self):
        for backs in ((0, 1, 2), (0, 2, 1), (0, 1, 2, 3), (1, 0, 3, 2)):
            with self.assertRaises(TooWide):
                greatest_company(Book(Ties(backs), [(tie,) * 3 for tie in range(len(backs))]))

    def test_endless(self):
        self.assertEqual(Endless(1).tie, 1)
        self.assertEqual(Endless(tie=2), Endless(2))
        self.assertNotEqual(Endless(1), Endless(2))
        self.assertFalse(Endless(1) == 1)
        # True is no number, so it is not equal to the tie 1.
        self.assertFalse(Endless(1) == Endless(True))


if __name__ == "__main__":
    unittest.main()
