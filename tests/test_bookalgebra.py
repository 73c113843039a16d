"""[2.6], [2.7]: books compared, also up to the names of their ties."""

import unittest
from itertools import permutations, product

from joinedguests.book import Book
from joinedguests.bookalgebra import is_within, least_book, same_up_to_names
from joinedguests.errors import OtherTies
from joinedguests.ties import Ties
from oracle import all_books, all_rows, classes, closed, company

WIDER = ((0, 1, 2), (0, 2, 1), (0, 1, 2, 3), (1, 0, 3, 2), (0, 1, 3, 2))


def renamings(backs):
    """All orders of names that keep backs, ascending."""
    many = range(len(backs))
    return [
        names for names in permutations(many) if all(names[backs[tie]] == backs[names[tie]] for tie in many)
    ]


def renamed(names, barred):
    return tuple(sorted((names[p], names[q], names[r]) for p, q, r in barred))


def some_books(backs):
    kinds = classes(backs)
    return [Book(Ties(backs), kinds[first::step]) for first in range(3) for step in (2, 3, 5)] + [Book(Ties(backs))]


def books_over(backs):
    return all_books(backs) if len(backs) == 2 else some_books(backs)


class TestIsWithin(unittest.TestCase):
    def test_each_three_that_other_bars(self):
        for backs in ((0, 1), (1, 0), (0, 2, 1)):
            for one, other in product(books_over(backs), repeat=2):
                self.assertIs(is_within(one, other), set(other.barred) <= set(one.barred))

    def test_each_company_that_one_lets(self):
        every = [company((0, 1), rows) for rows in all_rows((0, 1), 3)]
        for one, other in product(all_books((0, 1)), repeat=2):
            let = all(other.lets(told) for told in every if one.lets(told))
            self.assertEqual(is_within(one, other), let)


class TestNames(unittest.TestCase):
    def test_same_up_to_names(self):
        for backs in ((0, 1), (1, 0)) + WIDER:
            for one, other in product(books_over(backs), repeat=2):
                found = [names for names in renamings(backs) if renamed(names, one.barred) == other.barred]
                expected = tuple(enumerate(found[0])) if found else None
                self.assertEqual(same_up_to_names(one, other), expected)

    def test_the_least_of_several(self):
        for backs in WIDER:
            names = renamings(backs)[-1]
            one = Book(Ties(backs), classes(backs)[1:4])
            pairs = same_up_to_names(one, Book(one.ties, renamed(names, one.barred)))
            self.assertEqual(one.renamed_ties(pairs).barred, renamed(names, one.barred))
            self.assertLessEqual(pairs, tuple(enumerate(names)))
        free = Book(Ties((0, 1, 2, 3)))
        self.assertEqual(same_up_to_names(free, free), ((0, 0), (1, 1), (2, 2), (3, 3)))

    def test_backs_are_kept(self):
        one, other = (Book(Ties((0, 2, 1)), [(tie,) * 3]) for tie in (0, 1))
        self.assertIsNone(same_up_to_names(one, other))
        self.assertEqual(same_up_to_names(other, other), ((0, 0), (1, 1), (2, 2)))

    def test_least_book(self):
        for backs in ((0, 1), (1, 0)) + WIDER:
            for book in books_over(backs):
                least = min(renamed(names, book.barred) for names in renamings(backs))
                self.assertEqual(least_book(book).barred, least)
                self.assertEqual(least_book(book).ties, book.ties)

    def test_least_book_by_hand(self):
        ties = Ties((0, 1, 2, 3))
        self.assertEqual(least_book(Book(ties, [(3, 3, 3)])), Book(ties, [(0, 0, 0)]))
        self.assertEqual(least_book(Book(ties, [(3, 3, 1)])).barred, tuple(sorted(closed(ties.backs, [(0, 0, 1)]))))

    def test_other_ties(self):
        for call in (is_within, same_up_to_names):
            for backs in ((1, 0), (0, 1, 2)):
                with self.assertRaises(OtherTies):
                    call(Book(Ties((0, 1))), Book(Ties(backs)))


if __name__ == "__main__":
    unittest.main()
