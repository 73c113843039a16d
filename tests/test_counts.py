"""[7.1] to [7.3]: how many guests of halls meet a row."""

import unittest
from itertools import combinations

from asking import endless, together
from joinedguests.book import Book
from joinedguests.clashjudge import clash_fault
from joinedguests.company import Company
from joinedguests.counts import Most, count_fault, fixed_rows, how_many
from joinedguests.errors import NoHall, NotLet, OtherTies, TooWide
from joinedguests.sizes import Endless
from joinedguests.ties import Ties
from joinedguests.verdict import joins
from oracle import all_books, chain, company, fine, lawful, let_rows

# Books that join, with a row over one guest that a bounded number of guests meets, or too wide a one.
BOUNDED = (
    ((1, 0, 2), ((0, 0, 0), (0, 0, 2), (0, 2, 2), (2, 2, 2)), (2,), 1),
    ((1, 0, 2), ((0, 0, 0), (0, 0, 2), (0, 2, 2), (2, 2, 2)), (0,), 2),
    ((0, 2, 1), ((0, 0, 0), (0, 1, 1), (0, 1, 2), (0, 2, 2), (1, 1, 1)), (0,), 3),
    ((0, 1, 2), (
        (0, 0, 0), (0, 1, 1), (0, 1, 2), (0, 2, 2), (1, 1, 1), (1, 2, 2), (2, 2, 2)), (0,), 4),
    ((1, 0, 2), ((0, 0, 0), (0, 0, 2), (0, 2, 2), (2, 2, 2)), (), None),
    ((2, 1, 0, 3), (
        (0, 0, 0), (0, 0, 1), (0, 0, 2), (0, 1, 0), (0, 1, 3), (0, 2, 1), (0, 2, 3), (0, 3, 0), (0, 3, 1), (0, 3, 3),
        (1, 1, 1), (1, 3, 3), (3, 3, 3)), (1,), None),
)
CLASHES = Book(Ties((0, 1)), [(0, 0, 0), (1, 1, 1)])


def joined_books():
    """Books that join: all of two ties, some of three, those of BOUNDED."""
    books = all_books((0, 1)) + all_books((1, 0)) + all_books((0, 2, 1)) + all_books((0, 1, 2))[::13]
    books += [Book(Ties(backs), threes) for backs, threes, _, _ in BOUNDED]
    return [book for book in books if joins(book)]


def companies_of(book, most):
    backs = book.ties.backs
    for count in range(most + 1):
        for rows in let_rows(backs, book.barred, count):
            yield company(backs, rows, [2 * at + (at > 1) for at in range(count)])


class TestHowMany(unittest.TestCase):
    def check(self, book, told, row):
        """Check how_many against a search, and return what it told."""
        backs, barred = book.ties.backs, set(book.barred)
        tie, ties = endless(backs, barred, row), fine(backs, barred, row, row)
        if tie is not None:
            self.assertEqual(how_many(book, told, row), Endless(tie))
            return "endless"
        if len(ties) > 2:
            with self.assertRaises(TooWide):
                how_many(book, told, row)
            return "wide"
        found = how_many(book, told, row)
        self.assertIs(type(found), Most)
        self.assertEqual(found.number, together(backs, barred, row, 6))
        self.check_company(book, told, row, found)
        self.assertIsNone(count_fault(book, told, row, found))
        self.assertEqual(found.number == 1, ties == ())
        return found.number

    def check_company(self, book, told, row, found):
        free = [label for label in range(100) if label not in told.guests][:found.number]
        self.assertEqual(found.company.guests, tuple(sorted(list(told.guests) + free)))
        self.assertEqual(found.company.part_of(told.guests), told)
        self.assertTrue(book.lets(found.company))
        for label in free:
            self.assertEqual(tuple(found.company.tie_of(label, guest) for guest in told), tuple(row))

    def test_all_rows_over_small_companies(self):
        seen = {}
        for book in joined_books():
            most = 3 if book.ties.many == 2 else 2
            for told in companies_of(book, most):
                for row in lawful(book.ties.backs, set(book.barred), told.rows):
                    kind = self.check(book, told, row)
                    seen[kind] = seen.get(kind, 0) + 1
        # No book that joins has five newcomers of one row: the ring of five is of a book with a clash.
        self.assertEqual(set(seen), {"endless", "wide", 1, 2, 3, 4})
        self.assertGreater(min(seen.values()), 1)

    def test_by_hand(self):
        for backs, threes, row, number in BOUNDED:
            book = Book(Ties(backs), threes)
            told = chain(backs, 0, [3][:len(row)])
            self.assertEqual(self.check(book, told, row), "wide" if number is None else number)
            self.assertEqual(self.check(book, told, list(row)), "wide" if number is None else number)

    def test_least_tie_of_endless(self):
        ties = Ties((0, 1, 2))
        nobody = Company(ties)
        for barred, tie in [((), 0), (((0, 0, 0),), 1)]:
            self.assertEqual(how_many(Book(ties, barred), nobody, ()), Endless(tie))
        # Over one guest the tie 0 is not fine; over nobody it is.
        book = Book(ties, [(1, 1, 0)])
        self.assertTrue(joins(book))
        self.assertEqual(how_many(book, chain((0, 1, 2), 0, [5]), (1,)), Endless(1))
        self.assertEqual(how_many(book, chain((0, 1, 2), 0, [5]), (0,)), Endless(0))

    def test_labels_between_those_of_the_company(self):
        book = Book(Ties((0, 1, 2)), BOUNDED[3][1])
        told = chain((0, 1, 2), 0, [2])
        found = how_many(book, told, (0,))
        self.assertEqual((found.number, found.company.guests), (4, (0, 1, 2, 3, 4)))
        found = how_many(book, chain((0, 1, 2), 0, [10 ** 9]), (0,))
        self.assertEqual(found.company.guests, (0, 1, 2, 3, 10 ** 9))

    def test_fifty_guests(self):
        book = Book(Ties((0, 1)), [(0, 0, 1), (0, 0, 0)])
        self.assertTrue(joins(book))
        told = chain((0, 1), 1, list(range(0, 100, 2)))
        found = how_many(book, told, (0,) + (1,) * 49)
        self.assertEqual((found.number, found.company.guests[:3], len(found.company)), (1, (0, 1, 2), 51))
        self.assertEqual(how_many(book, told, (1,) * 50), Endless(1))
        self.assertIsNone(count_fault(book, told, (0,) + (1,) * 49, found))

    def test_most(self):
        told = chain((0, 1), 0, [1, 2])
        most = Most(2, told)
        self.assertEqual((most.number, most.company), (2, told))
        self.assertEqual(list(vars(most)), ["number", "company"])
        self.assertEqual(most, Most(number=2, company=chain((0, 1), 0, [1, 2])))
        for unlike in (Most(1, told), Most(2, chain((0, 1), 1, [1, 2])), Endless(2), None, 2, (2, told)):
            self.assertFalse(most == unlike)
        self.assertFalse(Most(1, told) == Most(True, told))


class TestFixedRows(unittest.TestCase):
    def test_against_a_search(self):
        count = 0
        for book in joined_books():
            backs, barred = book.ties.backs, set(book.barred)
            for told in companies_of(book, 3):
                expected = tuple(row for row in lawful(backs, barred, told.rows) if not fine(backs, barred, row, row))
                self.assertEqual(fixed_rows(book, told), expected)
                count += len(expected)
        self.assertGreater(count, 100)

    def test_by_hand(self):
        # With the ties 0 within couples of guests, each guest has one partner.
        book = Book(Ties((0, 1)), [(0, 0, 1), (0, 0, 0)])
        self.assertEqual(fixed_rows(book, chain((0, 1), 1, [4, 5, 6])), ((0, 1, 1), (1, 0, 1), (1, 1, 0)))
        self.assertEqual(fixed_rows(book, Company(Ties((0, 1)))), ())
        self.assertEqual(
            fixed_rows(book, chain((0, 1), 1, list(range(6)))),
            tuple(tuple(int(x != y) for y in range(6)) for x in range(6)))


class TestCountFault(unittest.TestCase):
    def setUp(self):
        self.book = Book(Ties((0, 1, 2)), BOUNDED[3][1])
        self.told = chain((0, 1, 2), 0, [2])
        self.found = how_many(self.book, self.told, (0,))

    def fault(self, found, row=(0,)):
        return count_fault(self.book, self.told, row, found)

    def test_kind(self):
        for found in (None, 4, "most", Endless(0), Endless(1), (4, self.found.company), self.told):
            self.assertEqual(self.fault(found), "kind")
        book = Book(Ties((0, 1)))
        told = chain((0, 1), 0, [0])
        for found in (None, 0, Most(1, told), Most(5, told), True):
            self.assertEqual(count_fault(book, told, (0,), found), "kind")

    def test_tie(self):
        book = Book(Ties((0, 1, 2)), [(0, 0, 0)])
        told = chain((0, 1, 2), 1, [0])
        self.assertEqual(how_many(book, told, (1,)), Endless(1))
        self.assertIsNone(count_fault(book, told, (1,), Endless(1)))
        for tie in (0, 2, 3, -1, True, False, None, "1"):
            self.assertEqual(count_fault(book, told, (1,), Endless(tie)), "tie")

    def test_number(self):
        for number in (3, 5, 0, -4, True, None, "4"):
            self.assertEqual(self.fault(Most(number, self.found.company)), "number")
            self.assertEqual(self.fault(Most(number, None)), "number")

    def test_true_is_no_one(self):
        book = Book(Ties((0, 1)), [(0, 0, 1), (0, 0, 0)])
        told = chain((0, 1), 1, [0, 1])
        found = how_many(book, told, (0, 1))
        self.assertEqual(found.number, 1)
        self.assertIsNone(count_fault(book, told, (0, 1), Most(1, found.company)))
        self.assertEqual(count_fault(book, told, (0, 1), Most(True, found.company)), "number")

    def test_company(self):
        right = self.found.company
        not_let = Company(right.ties, right.guests, ((), (1,), (0, 0), (1, 2, 0), (2, 1, 0, 2)))
        for company_told in (
            None, 0, right.rows, self.told, right.without(0), right.renamed([(0, 5), (1, 1), (2, 2), (3, 3), (4, 4)]),
            right.with_row(5, (1, 1, 0, 2, 2)), chain((0, 1, 2), 0, [0, 1, 2, 3, 4]), chain((0, 1), 0, [0, 1, 2, 3, 4]),
            chain((0, 2, 1), 0, [0, 1, 2, 3, 4]), not_let, chain((0, 1, 2), 1, [0, 1, 2, 3, 4]),
        ):
            self.assertEqual(self.fault(Most(4, company_told)), "company")
        self.assertIsNone(self.fault(Most(4, right)))

    def test_unlike_ties_among_the_guests(self):
        """The newcomers are right, but two guests that were passed have another tie."""
        count = 0
        for book in joined_books():
            backs, barred = book.ties.backs, set(book.barred)
            for told in companies_of(book, 2):
                for other in companies_of(book, 2):
                    if told.guests != other.guests or told == other:
                        continue
                    for row in set(lawful(backs, barred, told.rows)) & set(lawful(backs, barred, other.rows)):
                        if endless(backs, barred, row) is None and len(fine(backs, barred, row, row)) < 3:
                            found = how_many(book, other, row)
                            self.assertIsNone(count_fault(book, other, row, found))
                            self.assertEqual(count_fault(book, told, row, found), "company")
                            count += 1
        self.assertGreater(count, 4)

    def test_the_newcomers_ties_are_any(self):
        right = self.found.company
        accepted = 0
        newcomers = [label for label in right if label != 2]
        for ties in range(2 ** 6):
            rows = {pair: 1 + (ties >> at & 1) for at, pair in enumerate(combinations(newcomers, 2))}
            told = Company(right.ties, right.guests, [
                [0 if 2 in (x, y) else rows[x, y] for x in right if x < y] for y in right])
            expected = None if self.book.lets(told) else "company"
            self.assertEqual(self.fault(Most(4, told)), expected)
            accepted += expected is None
        self.assertEqual(accepted, 3)

    def test_unlike_ties_to_the_guests(self):
        book = Book(Ties((0, 1)), [(0, 0, 1), (0, 0, 0)])
        told = chain((0, 1), 1, [0, 1])
        found = how_many(book, told, (0, 1))
        self.assertEqual(found.company.row_of(2), (0, 1))
        swapped = told.with_row(2, (1, 0))
        self.assertTrue(book.lets(swapped))
        self.assertEqual(count_fault(book, told, (0, 1), Most(1, swapped)), "company")
        self.assertEqual(count_fault(book, told, (0, 1), Most(1, chain((0, 1), 1, [0, 1, 2]))), "company")


class TestErrors(unittest.TestCase):
    def calls(self, book, told, row):
        return (
            lambda: how_many(book, told, row), lambda: count_fault(book, told, row, None),
            lambda: count_fault(book, told, row, Endless(0)))

    def test_in_order(self):
        barred = chain((0, 1), 0, [1, 2, 3])
        for told in (chain((1, 0), 0, [1, 2, 3]), chain((0, 1, 2), 0, [1])):
            for call in (*self.calls(CLASHES, told, None), lambda: fixed_rows(CLASHES, told)):
                with self.assertRaises(OtherTies):
                    call()
        for call in (*self.calls(CLASHES, barred, None), lambda: fixed_rows(CLASHES, barred)):
            with self.assertRaises(NoHall) as caught:
                call()
            self.assertIsNone(clash_fault(CLASHES, caught.exception.clash))
        book = Book(Ties((0, 1)), [(0, 0, 0), (0, 0, 1)])
        for call in (*self.calls(book, barred, None), lambda: fixed_rows(book, barred)):
            with self.assertRaises(NotLet) as caught:
                call()
            self.assertEqual(caught.exception.what, "company")

    def test_row(self):
        book = Book(Ties((0, 1)), [(0, 0, 0), (0, 0, 1)])
        told = chain((0, 1), 1, [1, 2])
        for row in (None, 0, "01", (), (1,), (1, 1, 1), (1, 2), (True, 1), (1, None), (0, 0), {0: 1, 1: 1}):
            for call in self.calls(book, told, row):
                with self.assertRaises(NotLet) as caught:
                    call()
                self.assertEqual(caught.exception.what, "row")

    def test_row_ahead_of_too_wide(self):
        book = Book(Ties((1, 0, 2)), BOUNDED[0][1])
        nobody = Company(book.ties)
        for call in self.calls(book, nobody, ()):
            with self.assertRaises(TooWide):
                call()
        for call in self.calls(book, nobody, (0,)):
            with self.assertRaises(NotLet):
                call()


if __name__ == "__main__":
    unittest.main()
