"""[5.14]: halls grown by rounds, and whole halls."""

import unittest
from itertools import combinations

from halls import CLASHES, CLUMPS, COUPLES, FOUR, FREE, OTHER_FOUR, THREE, WIDE, PlainBound, PlainHall, joined_books, lawful_over, tie_of
from joinedguests.book import Book
from joinedguests.clashjudge import clash_fault
from joinedguests.errors import BadGrowth, HallBound, NoHall, TooWide
from joinedguests.growing import finish, grow
from joinedguests.hall import Hall
from joinedguests.sizes import Endless
from joinedguests.ties import Ties
from oracle import BACKS, all_books


def unmet(book, told, most):
    """All (lot, row) of at most so many guests that nobody meets."""
    found = []
    for count in range(most + 1):
        for lot in combinations(told.guests, count):
            met = {
                tuple(tie_of(told, label, guest) for guest in lot) for label in told.guests if label not in lot}
            found.extend((lot, row) for row in lawful_over(book, told, lot) if row not in met)
    return found


def wide_books():
    """Books without a row tie that join, with more than two ties."""
    books = all_books((1, 0, 2)) + all_books((0, 2, 1)) + [WIDE]
    return [book for book in books if all(book.bars(t, t, t) for t in range(book.ties.many))]


def plain_grown(book, rounds, size):
    plain = PlainHall(book)
    for _ in range(rounds):
        plain.grow_round(size)
    return plain.company


class TestGrow(unittest.TestCase):
    def test_no_rounds(self):
        for size in range(4):
            hall = grow(FREE, 0, size)
            self.assertIs(type(hall), Hall)
            self.assertEqual((len(hall), hall.book), (0, FREE))

    def test_by_hand(self):
        hall = grow(FREE, 1, 2)
        self.assertEqual([hall.came_for(label) for label in hall], [((), ())])
        # In the second round 0 alone is there when it begins.
        hall = grow(FREE, 2, 2)
        self.assertEqual([hall.came_for(label) for label in hall], [((), ()), ((0,), (0,)), ((0,), (1,))])
        self.assertEqual(hall.company.rows, ((), (0,), (1, 0)))
        # In the third round the lots of one guest come ahead of those of two, each in order.
        hall = grow(FREE, 3, 2)
        self.assertEqual(
            [hall.came_for(label) for label in hall][3:],
            [((1,), (1,)), ((0, 1), (0, 0)), ((0, 1), (1, 1)), ((0, 2), (0, 1)), ((0, 2), (1, 1)), ((1, 2), (1, 1))])
        self.assertEqual(len(grow(FREE, 5, 0)), 1)

    def test_against_a_plain_hall(self):
        """Three rounds of lots of two guests, and what is unmet after each round."""
        bounds = 0
        for book in joined_books()[::2] + [COUPLES, FOUR, OTHER_FOUR, THREE, WIDE, CLUMPS]:
            for size in range(3):
                plain = PlainHall(book)
                for rounds in range(4):
                    hall = grow(book, rounds, size)
                    self.assertEqual(hall.company, plain.company)
                    self.assertEqual(tuple(hall.came_for(label) for label in hall), plain.askings)
                    there = len(hall)
                    try:
                        plain.grow_round(size)
                    except PlainBound:
                        bounds += 1
                        with self.assertRaises(HallBound):
                            grow(book, rounds + 1, size)
                        break
                    # Each lawful row over those who were there is met now.
                    rows_unmet = unmet(book, plain.company, size) if there < 6 else []
                    self.assertEqual([lot for lot, _ in rows_unmet if not lot or lot[-1] < there], [])
        self.assertTrue(bounds > 2, bounds)

    def test_the_bound(self):
        for backs in BACKS:
            book = Book(Ties(backs))
            if len(backs) == 4:
                with self.assertRaises(HallBound):
                    grow(book, 3, 2)
            else:
                self.assertEqual(grow(book, 3, 2).company, plain_grown(book, 3, 2))

    def test_small_halls_of_many_rounds(self):
        for book, count in [(FOUR, 4), (OTHER_FOUR, 4), (THREE, 3)]:
            for rounds in (4, 5):
                hall = grow(book, rounds, 3)
                self.assertEqual(len(hall), count)
                self.assertEqual(unmet(book, hall.company, count), [])
            self.assertEqual(grow(book, 5, 1).company, plain_grown(book, 5, 1))
            self.assertEqual(grow(book, 2, 3).company, plain_grown(book, 2, 3))

    def test_refused(self):
        for rounds in (-1, 6, None, True, False, "1", 1.0):
            for size in (0, 7):
                with self.assertRaises(BadGrowth) as caught:
                    grow(FREE, rounds, size)
                self.assertEqual(caught.exception.what, "rounds")
        for size in (-1, 4, None, True, False, "1", [1]):
            with self.assertRaises(BadGrowth) as caught:
                grow(FREE, 0, size)
            self.assertEqual(caught.exception.what, "size")

    def test_no_hall_comes_first(self):
        for call in (lambda: grow(CLASHES, -1, -1), lambda: grow(CLASHES, 1, 1), lambda: finish(CLASHES)):
            with self.assertRaises(NoHall) as caught:
                call()
            self.assertIsNone(clash_fault(CLASHES, caught.exception.clash))


class TestFinish(unittest.TestCase):
    def test_books_with_a_row_tie(self):
        found = 0
        for book in joined_books():
            ties = [tie for tie in range(book.ties.many) if (tie,) * 3 not in book.barred]
            if ties:
                found += 1
                self.assertEqual(finish(book), Endless(ties[0]))
        self.assertTrue(found > 20)
        self.assertEqual(finish(Book(Ties((0, 1)), [(0, 0, 0), (0, 0, 1)])), Endless(1))

    def test_more_than_two_ties(self):
        refused = {"wide": 0, "clash": 0}
        for book in wide_books():
            try:
                finish(book)
            except TooWide:
                refused["wide"] += 1
                self.assertEqual(len(Hall(book)), 0)
            except NoHall as error:
                refused["clash"] += 1
                self.assertIsNone(clash_fault(book, error.clash))
        self.assertTrue(min(refused.values()) > 1, refused)

    def test_whole_halls(self):
        whole = []
        for book in joined_books():
            if book.ties.many == 2 and all((tie,) * 3 in book.barred for tie in (0, 1)):
                hall = finish(book)
                self.assertIs(type(hall), Hall)
                whole.append(book.barred)
                self.assertTrue(1 <= len(hall) <= 5)
                self.assertTrue(book.lets(hall.company))
                self.assertEqual(unmet(book, hall.company, len(hall)), [])
                plain = PlainHall(book)
                for _ in range(6):
                    plain.grow_round(len(plain.rows))
                self.assertEqual(hall.company, plain.company)
                self.assertEqual(tuple(hall.came_for(label) for label in hall), plain.askings)
        self.assertEqual(len(whole), 3)
        self.assertEqual([len(finish(book)) for book in (FOUR, OTHER_FOUR, THREE)], [4, 4, 3])

    def test_each_hall_is_new(self):
        one, other = finish(THREE), finish(THREE)
        self.assertIsNot(one, other)
        self.assertEqual(one.company, other.company)


if __name__ == "__main__":
    unittest.main()
