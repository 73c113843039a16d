"""[10.1], [10.2]: book beside book."""

import random
import unittest
from itertools import product

from joinedguests.book import Book
from joinedguests.clashjudge import clash_fault
from joinedguests.company import Company
from joinedguests.errors import NoRows, OtherTies, TooMany, UnlikeGuests
from joinedguests.pairs import beside_verdict, book_beside, first_of, put_beside, second_of
from joinedguests.ties import Ties
from joinedguests.verdict import Clash, Strict
from oracle import all_books, chain, company, first_barred, search, tie_in

BOOKS = all_books((0, 1)) + all_books((1, 0))
FREE = Book(Ties((0, 1)))
WAYS = Book(Ties((1, 0)))
THREE = Book(Ties((0, 1, 2)))


def random_rows(chance, many, count):
    return [[chance.randrange(many) for _ in range(j)] for j in range(count)]


class TestBookBeside(unittest.TestCase):
    def test_all_pairs_of_books_of_two_ties(self):
        for one, other in product(BOOKS, repeat=2):
            beside = book_beside(one, other)
            backs = [one.ties.backs[s] * 2 + other.ties.backs[t] for s in range(2) for t in range(2)]
            self.assertEqual(beside.ties, Ties(backs))
            pairs = [(s, t) for s in range(2) for t in range(2)]
            expected = [
                tuple(s * 2 + t for s, t in three) for three in product(pairs, repeat=3)
                if tuple(s for s, _ in three) in one.barred or tuple(t for _, t in three) in other.barred]
            self.assertEqual(beside.barred, tuple(expected))

    def test_by_hand(self):
        beside = book_beside(Book(Ties((0, 1)), [(0, 0, 0)]), Book(Ties((1, 0)), [(0, 0, 0)]))
        self.assertEqual(beside.ties.backs, (1, 0, 3, 2))
        # Firsts (0, 0, 1) are let, seconds (0, 0, 0) barred; firsts (0, 0, 0) are barred.
        self.assertTrue(beside.bars(0, 0, 2))
        self.assertFalse(beside.bars(0, 0, 3))
        self.assertTrue(beside.bars(0, 0, 1))
        self.assertTrue(beside.bars(0, 1, 1))


class TestHalves(unittest.TestCase):
    def test_random_companies(self):
        chance = random.Random(1)
        both = 0
        for one, other in product(BOOKS, repeat=2):
            beside = book_beside(one, other)
            backs = beside.ties.backs
            count = chance.randint(0, 4)
            told = company(backs, random_rows(chance, 4, count), sorted(chance.sample(range(9), count)))
            first, second = first_of(one, other, told), second_of(one, other, told)
            self.assertEqual((first.ties, second.ties), (one.ties, other.ties))
            self.assertEqual((first.guests, second.guests), (told.guests, told.guests))
            for j in range(count):
                for i in range(count):
                    if i != j:
                        halves = tie_in(one.ties.backs, first.rows, j, i), tie_in(other.ties.backs, second.rows, j, i)
                        self.assertEqual(tie_in(backs, told.rows, j, i), halves[0] * 2 + halves[1])
            self.assertEqual(put_beside(one, other, first, second), told)
            # It is let exactly if both are.
            let = [first_barred(book.ties.backs, set(book.barred), part.rows) is None for book, part in (
                (beside, told), (one, first), (other, second))]
            self.assertEqual(let[0], let[1] and let[2])
            both += let[0] and count > 2
        self.assertTrue(both > 20, both)

    def test_put_beside(self):
        chance = random.Random(2)
        for one, other in product(BOOKS[::3], repeat=2):
            for count in range(5):
                labels = sorted(chance.sample(range(9), count))
                first = company(one.ties.backs, random_rows(chance, 2, count), labels)
                second = company(other.ties.backs, random_rows(chance, 2, count), labels)
                told = put_beside(one, other, first, second)
                self.assertEqual(first_of(one, other, told), first)
                self.assertEqual(second_of(one, other, told), second)

    def test_by_hand(self):
        told = Company(Ties((1, 0, 3, 2)), (3, 4, 7), ((), (2,), (1, 3)))
        self.assertEqual(first_of(FREE, WAYS, told), Company(Ties((0, 1)), (3, 4, 7), ((), (1,), (0, 1))))
        self.assertEqual(second_of(FREE, WAYS, told), Company(Ties((1, 0)), (3, 4, 7), ((), (0,), (1, 1))))


class TestBesideVerdict(unittest.TestCase):
    def test_all_pairs_of_books_of_two_ties(self):
        kinds = {id(book): search(book.ties.backs, book.barred, 3)[0] for book in BOOKS}
        counts = {"strict": 0, "clash": 0, "one": 0, "other": 0}
        for one, other in product(BOOKS, repeat=2):
            rows = [any((t, t, t) not in book.barred for t in range(2)) for book in (one, other)]
            if not all(rows):
                which = "other" if rows[0] else "one"
                with self.assertRaises(NoRows) as caught:
                    beside_verdict(one, other)
                self.assertEqual(caught.exception.which, which)
                counts[which] += 1
                continue
            found = beside_verdict(one, other)
            if kinds[id(one)] == kinds[id(other)] == "strict":
                self.assertEqual(found, Strict())
            else:
                self.assertIs(type(found), Clash)
                self.assertIsNone(clash_fault(book_beside(one, other), found))
            counts[found.KIND] += 1
        self.assertTrue(min(counts.values()) > 30, counts)

    def test_a_book_that_joins_only(self):
        couples = Book(Ties((0, 1)), [(0, 0, 0), (0, 0, 1)])
        for one, other in [(couples, FREE), (FREE, couples), (couples, couples)]:
            found = beside_verdict(one, other)
            self.assertIs(type(found), Clash)
            self.assertIsNone(clash_fault(book_beside(one, other), found))


class TestRefused(unittest.TestCase):
    def test_too_many_comes_first(self):
        told, none = chain((1, 0), 0, [1]), Book(Ties((0, 1, 2)), [(0, 0, 0), (1, 1, 1), (2, 2, 2)])
        for one, other, count in [
            (FREE, THREE, 6), (THREE, WAYS, 6), (THREE, THREE, 9), (Book(Ties((0, 1, 2, 3))), FREE, 8), (none, none, 9),
        ]:
            for call in (
                lambda: book_beside(one, other), lambda: first_of(one, other, told), lambda: second_of(one, other, told),
                lambda: put_beside(one, other, told, chain((0, 1), 0, [2])), lambda: beside_verdict(one, other),
            ):
                with self.assertRaises(TooMany) as caught:
                    call()
                self.assertEqual(caught.exception.count, count)

    def test_other_ties(self):
        for call in (first_of, second_of):
            for backs in ((0, 1), (1, 0), (0, 1, 2, 3), (3, 2, 1, 0), (2, 3, 0, 1)):
                with self.assertRaises(OtherTies):
                    call(FREE, WAYS, Company(Ties(backs)))
            self.assertEqual(len(call(FREE, WAYS, Company(Ties((1, 0, 3, 2))))), 0)
        first, second = chain((0, 1), 0, [1, 2]), chain((1, 0), 0, [1, 2])
        self.assertEqual(put_beside(FREE, WAYS, first, second).guests, (1, 2))
        for one, other in [(second, second), (first, first), (second, first), (first, chain((0, 1), 0, [3]))]:
            with self.assertRaises(OtherTies):
                put_beside(FREE, WAYS, one, other)

    def test_unlike_guests(self):
        for labels in ([1], [1, 3], [1, 2, 3], []):
            with self.assertRaises(UnlikeGuests):
                put_beside(FREE, WAYS, chain((0, 1), 0, [1, 2]), chain((1, 0), 0, labels))


if __name__ == "__main__":
    unittest.main()
