"""[5.4], [5.6]: askings, and newcomers who meet them and are none of some guests."""

import random
import unittest
from itertools import permutations, product

from halls import CLASHES, COUPLES, FOUR, FREE, joined_books, lawful_over, random_asking, random_company
from joinedguests.book import Book
from joinedguests.clashjudge import clash_fault
from joinedguests.company import Company
from joinedguests.errors import BadRow, NoHall, NotLet, OtherTies
from joinedguests.ties import Ties
from joinedguests.widening import asking_fault, widened_row
from oracle import chain, lawful, let_rows

# Guests 2 and 5 have tie 0, both have tie 1 to 7.
TOLD = Company(Ties((0, 1)), (2, 5, 7), ((), (0,), (1, 1)))


class TestAskingFault(unittest.TestCase):
    def test_right_askings(self):
        for guests, row in [((), ()), ((2,), (0,)), ((7, 2), (0, 1)), ([5, 7], [1, 1]), ([7, 2, 5], (1, 1, 1))]:
            self.assertIsNone(asking_fault(FREE, TOLD, guests, row))
        self.assertIsNone(asking_fault(COUPLES, TOLD, (5, 2), (1, 1)))

    def test_each_word(self):
        for guests, row, what in [
            ((3,), (0,), "guest"), ((2, None), (0, 0), "guest"), (("2",), (0,), "guest"), ((-1,), (0,), "guest"),
            (((),), (0,), "guest"), ((2.0,), (0,), "guest"), ((False,), (0,), "guest"),
            ((2, 2), (1, 1), "double"), ((2, 7, 5, 7), (1, 1, 1, 1), "double"),
            ((2,), (), "length"), ((), (0,), "length"), ((2, 5), (0, 0, 0), "length"),
            ((2,), (2,), "tie"), ((2, 5), (0, -1), "tie"), ((2, 5), (0, None), "tie"), ((2,), ("0",), "tie"),
            ((2, 5), (0, 1), "lawful"), ((2, 5), (0, 0), "lawful"), ((5, 2), (1, 0), "lawful"),
            ((7, 5, 2), (1, 0, 0), "lawful"),
        ]:
            self.assertEqual(asking_fault(COUPLES, TOLD, guests, row), what, (guests, row))
            self.assertEqual(asking_fault(COUPLES, TOLD, list(guests), list(row)), what, (guests, row))

    def test_true_is_no_label_and_no_tie(self):
        told = chain((0, 1), 1, [0, 1, 2])
        self.assertIsNone(asking_fault(FREE, told, (0, 1), (0, 1)))
        for guests, row, what in [
            ((True,), (0,), "guest"), ((0, True), (0, 1), "guest"), ((False,), (1,), "guest"), ((1, True), (0, 0), "guest"),
            ((0, 1), (0, True), "tie"), ((0,), (False,), "tie"),
        ]:
            self.assertEqual(asking_fault(FREE, told, guests, row), what)

    def test_the_first_of_several(self):
        for guests, row, what in [
            # Guest by guest: a double one ahead of one that is no guest, and the other way round.
            ((2, 2, 3), (5,), "double"), ((2, 3, 2), (5,), "guest"), ((3, 3), (), "guest"),
            ((2, 2), (5,), "double"), ((2, 5), (7,), "length"), ((2, 5, 7), (0, 1, 9), "tie"),
        ]:
            self.assertEqual(asking_fault(COUPLES, TOLD, guests, row), what)

    def test_errors_come_first(self):
        with self.assertRaises(OtherTies):
            asking_fault(Book(Ties((1, 0))), TOLD, (99,), ())
        with self.assertRaises(OtherTies):
            asking_fault(Book(Ties((0, 1, 2)), [(0, 0, 0)]), chain((0, 1), 0, [0, 1, 2]), (99,), ())
        with self.assertRaises(NotLet) as caught:
            asking_fault(COUPLES, chain((0, 1), 0, [1, 2, 3]), (99,), ())
        self.assertEqual(caught.exception.what, "company")

    def test_it_is_asked_of_books_with_a_clash(self):
        told = chain((0, 1), 0, [1, 2])
        self.assertIsNone(asking_fault(CLASHES, told, (2, 1), (1, 0)))
        self.assertEqual(asking_fault(CLASHES, told, (2, 1), (0, 0)), "lawful")

    def test_lawful_against_the_rows_in_the_order_of_labels(self):
        for backs, threes in [((0, 1), [(0, 0, 1)]), ((1, 0), [(0, 0, 0)]), ((0, 2, 1), [(0, 1, 1), (1, 1, 1)])]:
            book = Book(Ties(backs), threes)
            for rows in let_rows(backs, book.barred, 3)[::2]:
                told = Company(book.ties, (1, 4, 6), rows)
                right = lawful(backs, set(book.barred), rows)
                for order in permutations(range(3)):
                    for row in product(range(len(backs)), repeat=3):
                        guests = [told.guests[place] for place in order]
                        expected = None if row in right else "lawful"
                        found = asking_fault(book, told, guests, [row[place] for place in order])
                        self.assertEqual(found, expected)


class TestWidenedRow(unittest.TestCase):
    def check(self, book, told, guests, row, but):
        """Check widened_row against all rows over the guests of all; return whether there is one."""
        labels = sorted(set(guests) | set(but))
        known = dict(zip(guests, row))
        right = [
            found for found in lawful_over(book, told, labels)
            if all(tie == known.get(label, tie) for label, tie in zip(labels, found))]
        found = widened_row(book, told, guests, row, but)
        if not right:
            self.assertIsNone(found)
            return False
        self.assertIs(type(found), tuple)
        self.assertIn(found, right)
        return True

    def test_against_a_search(self):
        chance = random.Random(1)
        books = joined_books() + [COUPLES, FOUR] * 5
        told = {True: 0, False: 0}
        for _ in range(1500):
            book = chance.choice(books)
            company = random_company(chance, book, 5 if book.ties.many == 2 else 4)
            asked = random_asking(chance, book, company, 3)
            if asked is not None:
                but = [chance.choice(company.guests) for _ in range(chance.randint(0, 7))] if company.guests else []
                told[self.check(book, company, *asked, but)] += 1
        self.assertTrue(told[True] > 500 and told[False] > 100, told)

    def test_all_of_a_small_company(self):
        for book in (COUPLES, FOUR, FREE):
            for rows in let_rows((0, 1), book.barred, 3):
                told = Company(book.ties, (0, 1, 2), rows)
                for but in ([], [1], [2, 0], [2, 1, 0], [1, 1, 0]):
                    for row in lawful_over(book, told, [1]):
                        self.check(book, told, (1,), row, but)
                    self.check(book, told, (), (), but)

    def test_by_hand(self):
        told = chain((0, 1), 0, [3, 8])
        # The partner of 3 is 8, so nobody else has tie 0 to 3.
        self.assertEqual(widened_row(COUPLES, told, (3,), (0,), ()), (0,))
        self.assertIsNone(widened_row(COUPLES, told, (3,), (0,), (8,)))
        self.assertEqual(widened_row(COUPLES, told, (3,), (1,), (8,)), (1, 1))
        self.assertEqual(widened_row(COUPLES, told, [8], [1], [3, 8, 3]), (1, 1))
        self.assertEqual(widened_row(COUPLES, told, (), (), [8, 3]), (1, 1))
        self.assertEqual(widened_row(FREE, Company(Ties((0, 1))), (), (), ()), ())

    def test_ties_that_fail_later(self):
        # Among four guests in couples each least fine tie but one leads to no row.
        told = Company(Ties((0, 1)), (1, 2, 3, 4), ((), (0,), (1, 1), (1, 1, 0)))
        self.assertEqual(widened_row(COUPLES, told, (), (), (4, 3, 2, 1)), (1, 1, 1, 1))
        self.assertIsNone(widened_row(FOUR, told, (), (), (4, 3, 2, 1)))
        self.assertIsNotNone(widened_row(FOUR, told.without(4), (), (), (3, 2, 1)))

    def test_many_guests_alike(self):
        told = chain((0, 1), 0, list(range(59)))
        self.assertEqual(len(widened_row(FREE, told, (), (), told.guests)), 59)
        self.assertEqual(widened_row(Book(Ties((0, 1)), [(0, 0, 1)]), told, (7,), (1,), told.guests), (1,) * 59)

    def test_but(self):
        for but in ((4,), (2, None), (True,), ("5",), (-1,), ([],)):
            with self.assertRaises(BadRow) as caught:
                widened_row(COUPLES, TOLD, (2,), (1,), but)
            self.assertEqual(caught.exception.what, "but")
        told = chain((0, 1), 1, [0, 1])
        with self.assertRaises(BadRow) as caught:
            widened_row(FREE, told, (0,), (1,), [True])
        self.assertEqual(caught.exception.what, "but")

    def test_words_in_their_order(self):
        for guests, row, what in [
            ((3,), (0,), "guest"), ((2, 2), (1, 1), "double"), ((2,), (), "length"), ((2,), (True,), "tie"),
            ((2, 5), (0, 0), "lawful"),
        ]:
            for but in ((), (99,)):
                with self.assertRaises(BadRow) as caught:
                    widened_row(COUPLES, TOLD, guests, row, but)
                self.assertEqual(caught.exception.what, what)

    def test_errors_in_their_order(self):
        # Each book and company has all faults that come later, too.
        with self.assertRaises(OtherTies):
            widened_row(Book(Ties((0, 1)), [(0, 0, 0), (1, 1, 1)]), chain((1, 0), 0, [1, 2]), (9,), (), (8,))
        with self.assertRaises(NoHall) as caught:
            widened_row(CLASHES, chain((0, 1), 0, [1, 2, 3]), (9,), (), (8,))
        self.assertIsNone(clash_fault(CLASHES, caught.exception.clash))
        with self.assertRaises(NotLet) as caught:
            widened_row(COUPLES, chain((0, 1), 0, [1, 2, 3]), (9,), (), (8,))
        self.assertEqual(caught.exception.what, "company")

    def test_what_is_passed_stays(self):
        guests, row, but = [7, 2], [0, 1], [5, 5]
        widened_row(FREE, TOLD, guests, row, but)
        self.assertEqual((guests, row, but), ([7, 2], [0, 1], [5, 5]))


if __name__ == "__main__":
    unittest.main()
