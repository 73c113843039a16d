"""[3.1] to [3.3]: two newcomers over a company."""

import unittest
from itertools import product

from joinedguests.book import Book
from joinedguests.company import Company
from joinedguests.errors import NotLet, NoTie, OtherTies
from joinedguests.newcomers import Joinings, all_bars, first_bar, joinings_of
from joinedguests.ties import Ties
from oracle import all_books, bars, chain, classes, company, fine, lawful, let_rows

ODD_ROWS = (None, 0, "0", (), (0,), (0, 0, 0), (0, 2), (0, True), (None, 0), {0: 0, 1: 1})
CALLS = (
    joinings_of, all_bars,
    lambda book, told, one, other: first_bar(book, told, one, other, 0),
    lambda book, told, one, other: first_bar(book, told, one, other, None),
)


def some_books(backs):
    if len(backs) == 2:
        return all_books(backs)
    kinds = classes(backs)
    return [Book(Ties(backs), kinds[first::step]) for first, step in ((0, 2), (1, 3), (2, 4), (1, 5), (0, 7))]


class TestJoinings(unittest.TestCase):
    def test_against_threes(self):
        for backs, most in (((0, 1), 3), ((1, 0), 3), ((0, 2, 1), 2), ((0, 1, 2), 2), ((1, 0, 3, 2), 2)):
            for book in some_books(backs):
                for count in range(most + 1):
                    labels = [3 * at + 2 for at in range(count)]
                    for rows in let_rows(backs, book.barred, count)[::3]:
                        self.check(book, company(backs, rows, labels), lawful(backs, book.barred, rows))

    def check(self, book, told, rows):
        backs = book.ties.backs
        for one, other in list(product(rows, rows))[::1 + len(rows) // 9]:
            expected = fine(backs, book.barred, one, other)
            found = joinings_of(book, told, list(one), other)
            self.assertEqual(found, joinings_of(book, told, one, list(other)))
            self.assertEqual(found.ties, expected)
            self.assertIs(found.same, one == other)
            self.assertIs(found.can_join, expected != () or one == other)
            barrers = bars(backs, book.barred, told.guests, one, other)
            self.assertEqual(all_bars(book, told, one, list(other)), barrers)
            self.assertEqual(tuple(first_bar(book, told, one, other, tie) for tie in range(len(backs))), barrers)

    def test_fine_exactly_if_the_company_with_both_is_let(self):
        for backs in ((1, 0), (0, 2, 1)):
            for book in some_books(backs):
                for rows in let_rows(backs, book.barred, 2):
                    told = company(backs, rows)
                    for one, other in product(lawful(backs, book.barred, rows), repeat=2):
                        let = tuple(
                            tie for tie in range(len(backs))
                            if book.lets(told.with_row(2, other).with_row(3, one + (tie,))))
                        self.assertEqual(joinings_of(book, told, one, other).ties, let)

    def test_nobody(self):
        for backs in ((0, 1), (1, 0, 3, 2)):
            book = Book(Ties(backs), classes(backs))
            nobody = Company(Ties(backs))
            self.assertEqual(joinings_of(book, nobody, (), ()), Joinings(tuple(range(len(backs))), True))
            self.assertEqual(all_bars(book, nobody, (), ()), (None,) * len(backs))
            self.assertIsNone(first_bar(book, nobody, (), (), 1))

    def test_least_label(self):
        book = Book(Ties((0, 1)), [(0, 0, 0)])
        told = chain((0, 1), 1, [4, 7, 9])
        self.assertEqual(first_bar(book, told, (1, 0, 0), (0, 0, 0), 0), 7)
        self.assertIsNone(first_bar(book, told, (1, 0, 0), (0, 0, 0), 1))
        self.assertEqual(all_bars(book, told, (1, 0, 0), (0, 0, 0)), (7, None))

    def test_the_back_of_the_second_row_counts(self):
        # First newcomer to guest 0, guest to second newcomer 0 (its row says 1): (0, 0, 1) is barred.
        book = Book(Ties((1, 0)), [(0, 0, 1)])
        told = Company(Ties((1, 0)), (5,), ((),))
        self.assertEqual(joinings_of(book, told, (0,), (1,)), Joinings((0,), False))
        self.assertEqual(joinings_of(book, told, (1,), (0,)), Joinings((1,), False))
        self.assertEqual(joinings_of(book, told, (0,), (0,)), Joinings((0, 1), True))
        self.assertEqual(first_bar(book, told, (0,), (1,), 1), 5)


class TestErrors(unittest.TestCase):
    def test_other_ties_first(self):
        book = Book(Ties((0, 1)), classes((0, 1)))
        for call in CALLS:
            with self.assertRaises(OtherTies):
                call(book, chain((1, 0), 0, [1, 2, 3]), None, None)
            with self.assertRaises(OtherTies):
                call(book, chain((0, 1, 2), 0, [1, 2, 3]), None, None)

    def refused(self, what, *arguments):
        for call in CALLS:
            with self.assertRaises(NotLet) as caught:
                call(*arguments)
            self.assertEqual(caught.exception.what, what)

    def test_not_let(self):
        book = Book(Ties((0, 1)), [(0, 0, 0)])
        self.refused("company", book, chain((0, 1), 0, [1, 2, 3]), None, None)
        told = chain((0, 1), 0, [1, 2])
        for row in ODD_ROWS + ((0, 0), [0, 0]):
            self.refused("one", book, told, row, None)
            self.refused("one", book, told, row, (0, 1))
            self.refused("other", book, told, [0, 1], row)

    def test_no_tie(self):
        book = Book(Ties((0, 1)))
        for tie in (True, False, None, "0", 2, -1, (0,)):
            with self.assertRaises(NoTie) as caught:
                first_bar(book, Company(book.ties), (), (), tie)
            self.assertIs(caught.exception.tie, tie)


class TestResult(unittest.TestCase):
    def test_can_join(self):
        for ties, same, truth in [((), False, False), ((), True, True), ((1,), False, True), ((0, 1), True, True)]:
            told = Joinings(ties, same)
            self.assertIs(told.ties, ties)
            self.assertIs(told.same, same)
            self.assertIs(told.can_join, truth)

    def test_equality(self):
        self.assertEqual(Joinings((0, 1), True), Joinings((0, 1), True))
        self.assertNotEqual(Joinings((0, 1), True), Joinings((0, 1), False))
        self.assertNotEqual(Joinings((0, 1), True), Joinings((0,), True))
        self.assertNotEqual(Joinings((1,), True), Joinings((True,), True))
        self.assertNotEqual(Joinings((1,), True), Joinings((1,), 1))
        self.assertFalse(Joinings((), True) == ((), True))


if __name__ == "__main__":
    unittest.main()
