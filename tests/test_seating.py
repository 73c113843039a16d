"""[3.7] to [3.9]: couples, barring lots, seats and papers."""

import random
import unittest
from itertools import combinations, product

from joinedguests.book import Book
from joinedguests.company import Company
from joinedguests.errors import BadCouple
from joinedguests.seating import barring_lots, refuse_couples, seat_couples
from joinedguests.ties import Ties
from oracle import all_books, classes, let_rows, tie_in


def some_books(backs):
    if len(backs) == 2:
        return all_books(backs)
    kinds = classes(backs)
    chosen = [kinds[first::step] for first, step in ((0, 1), (0, 2), (1, 2), (1, 3), (2, 4), (0, 7))]
    return [Book(Ties(backs), threes) for threes in chosen] + [Book(Ties(backs))]


def is_lawful(backs, barred, rows, row):
    return all(
        (row[a], tie_in(backs, rows, a, b), row[b]) not in barred for a, b in combinations(range(len(row)), 2))


def seated_rows(book, couples):
    """The least rows of a let company in which both rows of the couples are lawful, or None."""
    backs = book.ties.backs
    one, other = [p for p, _ in couples], [backs[q] for _, q in couples]
    for rows in let_rows(backs, book.barred, len(couples)):
        if is_lawful(backs, book.barred, rows, one) and is_lawful(backs, book.barred, rows, other):
            return rows
    return None


class TestBarringLots(unittest.TestCase):
    def test_all_lots_in_order(self):
        for backs in ((0, 1), (1, 0), (0, 1, 2), (0, 2, 1), (1, 0, 3, 2)):
            for book in some_books(backs):
                self.assertEqual(list(barring_lots(book)), self.lots(book))

    def lots(self, book):
        many = range(book.ties.many)
        couples = list(product(many, many))
        barred = {pair: {tie for tie in many if pair + (tie,) in book.barred} for pair in couples}
        found = []
        for count in range(1, book.ties.many + 2):
            for lot in combinations(couples, count):
                ahead = set().union(*[barred[pair] for pair in lot])
                needed = all(
                    set().union(*[barred[other] for other in lot if other != pair]) != ahead for pair in lot)
                if ahead == set(many) and needed:
                    found.append(lot)
        return found

    def test_by_hand(self):
        book = Book(Ties((0, 1)), [(0, 0, 0), (1, 1, 1)])
        self.assertEqual(list(barring_lots(book)), [((0, 0), (1, 1))])
        book = Book(Ties((0, 1)), [(0, 0, 1), (0, 1, 1)])
        self.assertEqual(list(barring_lots(book)), [((0, 1),), ((1, 0),), ((0, 0), (1, 1))])
        self.assertEqual(list(barring_lots(Book(Ties((0, 1))))), [])


class TestSeatCouples(unittest.TestCase):
    def test_the_least_rows(self):
        for backs, most in (((0, 1), 3), ((1, 0), 3), ((0, 2, 1), 2)):
            many = range(len(backs))
            for book in some_books(backs):
                for count in range(most + 1):
                    for couples in list(product(product(many, many), repeat=count))[::1 + count]:
                        self.check(book, couples)

    def test_more_couples(self):
        chance = random.Random(5)
        for backs, count, tries in (((0, 1), 5, 12), ((1, 0), 5, 12), ((0, 1, 2), 4, 6), ((1, 0, 3, 2), 3, 8)):
            many = range(len(backs))
            for book in some_books(backs)[:12]:
                for _ in range(tries):
                    self.check(book, [[chance.choice(many), chance.choice(many)] for _ in range(count)])

    def check(self, book, couples):
        expected = seated_rows(book, couples)
        found = seat_couples(book, couples)
        if expected is None:
            self.assertIsNone(found)
        else:
            self.assertEqual(found, Company(book.ties, list(range(len(couples))), expected))

    def test_no_couples(self):
        for backs in ((0, 1), (0, 1, 2, 3)):
            self.assertEqual(seat_couples(Book(Ties(backs), classes(backs)), []), Company(Ties(backs)))
            self.assertEqual(seat_couples(Book(Ties(backs)), ()), Company(Ties(backs)))

    def test_equal_couples(self):
        book = Book(Ties((0, 1)), [(0, 0, 0)])
        self.assertEqual(seat_couples(book, [(0, 0)] * 2).rows, ((), (1,)))
        self.assertEqual(seat_couples(book, [(0, 0)] * 4).rows, ((), (1,), (1, 1), (1, 1, 1)))
        self.assertIsNone(seat_couples(book.with_barred((1, 1, 1)), [(0, 0)] * 3))

    def test_five_couples(self):
        book = Book(Ties((0, 1, 2, 3)))
        self.assertEqual(len(seat_couples(book, [(3, 2), (0, 0), (1, 3), (2, 2), (2, 2)])), 5)

    def test_which_ties_they_bar_does_not_matter(self):
        self.assertEqual(seat_couples(Book(Ties((0, 1))), [(0, 1), (1, 0)]).rows, ((), (0,)))

    def test_one_way_ties(self):
        # Both newcomers and both guests stand in a row without a ring of ties 0.
        book = Book(Ties((1, 0)), [(0, 0, 1)])
        self.assertEqual(seat_couples(book, [(0, 1), (1, 0)]).rows, ((), (0,)))
        self.assertEqual(seat_couples(book, [(1, 0), (0, 1)]).rows, ((), (1,)))
        self.assertIsNone(seat_couples(book, [(0, 0), (1, 1)]))

    def test_couples_are_not_changed(self):
        couples = [[0, 1], [1, 1]]
        seat_couples(Book(Ties((0, 1))), couples)
        refuse_couples(Book(Ties((0, 1)), classes((0, 1))), couples)
        self.assertEqual(couples, [[0, 1], [1, 1]])


class TestBadCouple(unittest.TestCase):
    def refused(self, index, couples, backs=(0, 1)):
        for book in (Book(Ties(backs)), Book(Ties(backs), classes(backs))):
            for call in (seat_couples, refuse_couples):
                with self.assertRaises(BadCouple) as caught:
                    call(book, couples)
                self.assertEqual(caught.exception.index, index)

    def test_the_first_wrong_entry(self):
        for entry in (None, 0, "01", (), (0,), (0, 1, 0), (0, 2), (True, 0), (0, False), (-1, 0), {0: 0, 1: 1}):
            self.refused(0, (entry,))
            self.refused(1, [(0, 0), entry, None])
            self.refused(4, [[1, 1]] * 4 + [entry] * 3)
        self.refused(2, [(2, 2), (0, 1), (3, 0)], (0, 1, 2))

    def test_more_than_five(self):
        self.refused(5, [(0, 0)] * 6)
        self.refused(5, [(0, 0)] * 5 + [None])
        self.refused(3, [(0, 0)] * 3 + [None] + [(0, 0)] * 3)


class TestRefuseCouples(unittest.TestCase):
    def follow(self, book, couples, paper):
        """Follow a paper to each of its ends; rows of ties so far stand in a dict."""
        pairs = [(j, i) for j in range(len(couples)) for i in range(j)]
        self.ends = 0
        self.follow_from(book, couples, paper, pairs, {})

    def follow_from(self, book, couples, paper, pairs, known):
        barred, (j, i) = book.barred, pairs[len(known)]
        (p, q), (u, v) = couples[i], couples[j]
        self.assertIs(type(paper), tuple)
        self.assertEqual(len(paper), book.ties.many)
        for s, entry in enumerate(paper):
            thirds = [k for k in range(i) if (s, known[i, k], known[j, k]) in barred]
            if (u, s, p) in barred:
                expected = ("one", j, i)
            elif (s, q, v) in barred:
                expected = ("other", j, i)
            elif thirds:
                expected = ("three", j, i, thirds[0])
            else:
                self.assertLess(len(known) + 1, len(pairs))
                self.follow_from(book, couples, entry, pairs, {**known, (j, i): s})
                continue
            self.ends += 1
            self.assertEqual(entry, expected)

    def check_all(self, backs, count, tries):
        chance = random.Random(len(backs) * 10 + count)
        many, refused = range(len(backs)), 0
        for book in some_books(backs):
            for _ in range(tries):
                couples = [(chance.choice(many), chance.choice(many)) for _ in range(count)]
                paper = refuse_couples(book, couples)
                self.assertEqual(paper is None, seated_rows(book, couples) is not None)
                if paper is not None:
                    refused += 1
                    self.follow(book, couples, paper)
        self.assertGreater(refused, 5)

    def test_papers_at_the_bounds(self):
        for backs, count, tries in [
            ((0, 1), 2, 9), ((0, 1), 5, 9), ((1, 0), 5, 20), ((0, 1, 2), 4, 9), ((0, 2, 1), 4, 9),
            ((0, 1, 2, 3), 3, 9), ((1, 0, 3, 2), 3, 9),
        ]:
            self.check_all(backs, count, tries)

    def test_by_hand(self):
        book = Book(Ties((0, 1)), [(0, 0, 0), (0, 0, 1)])
        self.assertEqual(refuse_couples(book, [(0, 1), (0, 1)]), (("one", 1, 0), ("one", 1, 0)))
        self.assertEqual(refuse_couples(book, [[1, 0], [1, 0]]), (("other", 1, 0), ("other", 1, 0)))
        book = Book(Ties((0, 1)), [(0, 0, 0), (1, 1, 1)])
        self.assertEqual(
            refuse_couples(book, [(0, 0)] * 3),
            (("one", 1, 0), (("one", 2, 0), (("one", 2, 1), ("three", 2, 1, 0)))))

    def test_a_deep_paper(self):
        # Five guests and a newcomer are six: three of six always show three like ties.
        book = Book(Ties((0, 1)), [(0, 0, 0), (1, 1, 1)])
        couples = [(0, 0), (0, 1), (1, 0), (1, 1), (0, 1)]
        paper = refuse_couples(book, couples)
        self.follow(book, couples, paper)
        self.assertGreater(self.ends, 5)

    def test_none(self):
        book = Book(Ties((0, 1)))
        for couples in ([], [(0, 1)], [(0, 1), (0, 1)], [(1, 1)] * 5):
            self.assertIsNone(refuse_couples(book, couples))
        everything = Book(Ties((0, 1)), classes((0, 1)))
        self.assertIsNone(refuse_couples(everything, []))
        self.assertIsNone(refuse_couples(everything, [(1, 0)]))


if __name__ == "__main__":
    unittest.main()
