"""[4.12]: many companies put into one."""

import random
import unittest
from itertools import permutations

from joinedguests.book import Book
from joinedguests.company import Company
from joinedguests.errors import CannotHost, NotStrict, OtherTies
from joinedguests.hosts import merge_all
from joinedguests.merging import merge
from joinedguests.ties import Ties
from joinedguests.verdict import joins_strictly
from oracle import BACKS, all_books, chain, classes, company, lawful

STRICT = Book(Ties((0, 1)), [(0, 0, 1)])


def strict_books():
    """Books that join strictly, with each kind of backs."""
    books = []
    for backs in BACKS:
        kinds = classes(backs)
        some = all_books(backs)[::9] if len(kinds) < 8 else [Book(Ties(backs), kinds[k:k + 2]) for k in range(len(kinds))]
        books.extend([book for book in some if joins_strictly(book)][:6])
    return books


def lot(chance, book, core_size, sizes):
    """Companies over one core, with so many other guests each, all labels mixed."""
    backs, barred = book.ties.backs, set(book.barred)
    labels = chance.sample(range(100), core_size + sum(sizes))
    core, others = labels[:core_size], labels[core_size:]
    core_rows = grown(chance, backs, barred, (), core_size)
    companies = []
    for size in sizes:
        rows = grown(chance, backs, barred, core_rows, size)
        mine, others = core + others[:size], others[size:]
        told = company(backs, rows)
        companies.append(told.renamed(list(zip(range(len(mine)), mine))))
    return companies


def grown(chance, backs, barred, rows, count):
    for _ in range(count):
        rows = rows + (chance.choice(lawful(backs, barred, rows)),)
    return rows


class TestMergeAll(unittest.TestCase):
    def check(self, book, companies):
        whole = merge_all(book, companies)
        self.assertTrue(book.lets(whole))
        self.assertEqual(whole.guests, tuple(sorted({label for told in companies for label in told})))
        for told in companies:
            self.assertEqual(whole.part_of(told.guests), told)
        expected = companies[0]
        for told in companies[1:]:
            expected = merge(book, expected, told).company
        self.assertEqual(whole, expected)
        return whole

    def test_all_orders(self):
        chance = random.Random(1)
        books = strict_books()
        self.assertGreater(len(books), 30)
        for book in books:
            for core_size, sizes in [
                (0, (2,)), (3, (0,)), (0, (1, 2)), (1, (1, 1, 1)), (2, (0, 2, 1)), (0, (0, 1, 1)), (3, (1, 1, 0, 1)),
            ]:
                companies = lot(chance, book, core_size, sizes)
                for order in permutations(companies):
                    self.check(book, list(order) if chance.random() < 0.5 else order)

    def test_another_order_may_give_another_company(self):
        # The least fine tie of 2 and 3 is told from 2 to 3 or from 3 to 2.
        book = Book(Ties((1, 0)))
        one, other = chain((1, 0), 0, [1, 2]), chain((1, 0), 0, [1, 3])
        self.assertEqual(merge_all(book, [one, other]).tie_of(2, 3), 0)
        self.assertEqual(merge_all(book, [other, one]).tie_of(3, 2), 0)

    def test_by_hand(self):
        one, other = chain((0, 1), 0, [1, 2]), chain((0, 1), 1, [1, 3])
        self.assertEqual(merge_all(STRICT, [one, other]).rows, ((), (0,), (1, 1)))
        third = chain((0, 1), 0, [1, 5])
        self.assertEqual(merge_all(STRICT, (other, third, one)).rows, ((), (0,), (1, 1), (0, 0, 1)))

    def test_one_company(self):
        for told in (Company(Ties((0, 1))), chain((0, 1), 1, [4]), chain((0, 1), 0, [2, 3, 8])):
            self.assertEqual(merge_all(STRICT, [told]), told)
            self.assertEqual(merge_all(STRICT, (told, told, told)), told)

    def test_nothing_is_kept(self):
        companies = [chain((0, 1), 0, [1, 2]), chain((0, 1), 1, [1, 3])]
        whole = merge_all(STRICT, companies)
        self.assertEqual(len(companies), 2)
        companies.clear()
        self.assertEqual(whole.guests, (1, 2, 3))

    def test_sixty_together(self):
        core = list(range(20))
        companies = [chain((0, 1), 0, core + list(range(20 + 10 * k, 30 + 10 * k))) for k in range(4)]
        self.assertEqual(merge_all(STRICT, companies), chain((0, 1), 0, list(range(60))))
        singles = [chain((1, 0), 0, [label]) for label in range(60)]
        self.assertEqual(len(merge_all(Book(Ties((1, 0))), singles)), 60)


class TestRefused(unittest.TestCase):
    def refused(self, index, what, labels, companies, book=STRICT):
        with self.assertRaises(CannotHost) as caught:
            merge_all(book, companies)
        self.assertEqual(
            (caught.exception.index, caught.exception.what, caught.exception.labels), (index, what, labels))

    def test_not_strict_ahead_of_all(self):
        books = [Book(Ties((0, 1)), [(0, 0, 0), (0, 0, 1)]), Book(Ties((0, 1)), [(0, 0, 0), (1, 1, 1)])]
        for book in books:
            for companies in ((), [], [chain((0, 1), 1, [1])], [chain((0, 1, 2), 0, [1, 2])], [chain((0, 1), 0, [1, 2, 3])]):
                with self.assertRaises(NotStrict):
                    merge_all(book, companies)

    def test_count(self):
        self.refused(0, "count", (), ())
        self.refused(0, "count", (), [])

    def test_other_ties(self):
        right = chain((0, 1), 0, [1, 2])
        barred = Company(Ties((0, 1)), (1, 2, 3), ((), (0,), (0, 1)))
        for backs in ((1, 0), (0, 1, 2)):
            stranger = chain(backs, 0, [1, 2])
            for companies in ([stranger], [stranger, barred], [right, stranger], [right, stranger, barred]):
                with self.assertRaises(OtherTies):
                    merge_all(STRICT, companies)
            self.refused(0, "barred", (1, 2, 3), [barred, stranger])

    def test_barred(self):
        right = chain((0, 1), 0, [1, 2])
        barred = Company(Ties((0, 1)), (1, 2, 4, 7), ((), (1,), (1, 1), (0, 0, 1)))
        self.refused(0, "barred", (1, 2, 7), [barred])
        self.refused(2, "barred", (1, 2, 7), [right, right, barred])
        # It differs from the first one, too.
        self.refused(1, "barred", (1, 2, 7), [right, barred, barred])

    def test_differ(self):
        first = chain((0, 1), 0, [1, 2, 3, 5])
        second = Company(Ties((0, 1)), (1, 2, 3, 6), ((), (0,), (1, 1), (0, 0, 1)))
        third = chain((0, 1), 1, [1, 2, 3])
        self.refused(1, "differ", (1, 3), [first, second])
        self.refused(1, "differ", (1, 2), [first, third, second])
        # 3 is no guest of the core of all three, so the tie from 1 to 2 alone is asked.
        self.refused(2, "differ", (1, 2), [chain((0, 1), 0, [1, 2, 5]), second, chain((0, 1), 1, [1, 2])])
        # The couple differs from the first company, not from the one ahead.
        self.refused(1, "differ", (1, 3), [first, second, second])

    def test_differ_is_asked_of_the_core_alone(self):
        one, other = chain((0, 1), 0, [1, 2]), chain((0, 1), 1, [1, 2])
        self.refused(1, "differ", (1, 2), [one, other])
        self.refused(1, "shared", (2,), [one, other, chain((0, 1), 0, [1])])
        self.refused(1, "shared", (1,), [one, other, Company(Ties((0, 1)))])

    def test_shared(self):
        one, other, third = chain((0, 1), 0, [1, 5]), chain((0, 1), 0, [1, 7, 9]), chain((0, 1), 0, [1, 5, 7])
        self.refused(2, "shared", (5,), [one, other, third])
        self.refused(1, "shared", (7,), [other, third, one])
        self.refused(1, "shared", (5,), [one, third, other])
        # A differing couple comes first, a wrong company ahead too.
        self.refused(2, "differ", (1, 2), [
            chain((0, 1), 0, [1, 2, 5]), chain((0, 1), 0, [1, 2]), chain((0, 1), 1, [1, 2, 5])])

    def test_many(self):
        core = list(range(30))
        companies = [chain((0, 1), 0, core + list(range(30 + 10 * k, 40 + 10 * k))) for k in range(3)]
        more = chain((0, 1), 0, core + [99])
        self.refused(3, "many", (), companies + [more])
        self.refused(3, "many", (), [more] + companies)
        self.assertEqual(len(merge_all(STRICT, [more] + companies[:2])), 51)
        # The first fault counts: a company that shares a guest, ahead of too many.
        self.refused(3, "shared", (35,), companies + [chain((0, 1), 0, core + [35, 98]), more])
        self.refused(3, "many", (), companies + [more, chain((0, 1), 0, core + [35])])


if __name__ == "__main__":
    unittest.main()
