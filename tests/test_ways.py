"""[4.10], [4.11]: all ways of merging."""

import unittest
from itertools import combinations, product

from joinedguests.book import Book
from joinedguests.company import Company
from joinedguests.errors import CannotMerge, NotLet, NoWay, OtherTies, TooMany
from joinedguests.merging import Merged, merge, with_crossing
from joinedguests.ties import Ties
from joinedguests.ways import how_many_ways, merge_ways, way_at, way_place
from oracle import all_books, chain, classes, company, first_barred, let_rows

# The labels of both companies, and how many ties their crossing has at the most.
LOTS = (
    ((1, 2), (1, 3)), ((1, 4), (2, 3)), ((1, 2, 5), (1, 3, 4)), ((2, 4, 6), (1, 3, 6)), ((1, 2, 3), (2,)),
    ((2,), (1, 2, 3)), ((), (4, 5)), ((1, 2, 3), (1, 2, 3)), ((1, 2, 3), (4,)), ((2, 5), (1, 3, 4)),
)


def walk(book, one, other):
    """All let companies of all guests of both, one for each crossing, in their order."""
    many, backs, barred = book.ties.many, book.ties.backs, set(book.barred)
    firsts = [label for label in one if label not in other]
    seconds = [label for label in other if label not in one]
    couples = [(x, y) for y in seconds for x in firsts]
    labels = sorted(set(one) | set(other))
    found = []
    for crossing in product(range(many), repeat=len(couples)):
        ties = {}
        for (x, y), tie in zip(couples, crossing):
            ties[x, y], ties[y, x] = tie, backs[tie]
        for part in (one, other):
            ties.update({(a, b): part.tie_of(a, b) for a in part for b in part if a != b})
        rows = tuple(tuple(ties[a, b] for b in labels if b < a) for a in labels)
        if first_barred(backs, barred, rows) is None:
            found.append(Company(book.ties, labels, rows))
    return found


class TestWays(unittest.TestCase):
    def check(self, book, one, other):
        expected = walk(book, one, other)
        found = list(merge_ways(book, one, other))
        self.assertEqual(found, expected)
        self.assertEqual(how_many_ways(book, one, other), len(expected))
        for place, way in list(enumerate(expected))[::1 + len(expected) // 5]:
            self.assertEqual(way_at(book, one, other, place), way)
            self.assertEqual(way_place(book, one, other, way), place)
        for number in (len(expected), -1):
            with self.assertRaises(NoWay) as caught:
                way_at(book, one, other, number)
            self.assertEqual(caught.exception.number, number)
        told = merge(book, one, other)
        if isinstance(told, Merged) and not told.made_one:
            self.assertEqual(told.company, expected[0])
        return len(expected)

    def check_all(self, books, lots, step):
        counts = []
        for book in books:
            backs = book.ties.backs
            for labels, other_labels in lots:
                ones = [company(backs, rows, labels) for rows in let_rows(backs, book.barred, len(labels))]
                others = [
                    company(backs, rows, other_labels) for rows in let_rows(backs, book.barred, len(other_labels))]
                for one, other in list(product(ones, others))[::step]:
                    common = [label for label in labels if label in other_labels]
                    if all(one.tie_of(x, y) == other.tie_of(x, y) for x, y in combinations(common, 2)):
                        counts.append(self.check(book, one, other))
        return counts

    def test_two_ties(self):
        counts = self.check_all(all_books((0, 1)) + all_books((1, 0)), LOTS, 7)
        self.assertEqual((min(counts), max(counts)), (0, 16 * 4))

    def test_more_ties(self):
        lots = [lot for lot in LOTS if lot not in (((2, 5), (1, 3, 4)),)]
        self.check_all(all_books((0, 2, 1))[2::40], lots, 41)
        some = [Book(Ties((1, 0, 3, 2)), classes((1, 0, 3, 2))[first::3]) for first in range(3)]
        self.check_all(some, lots[:3] + lots[4:], 61)

    def test_nine_ties_of_two(self):
        one, other = chain((0, 1), 0, [1, 4, 7]), chain((0, 1), 1, [2, 3, 9])
        for book in all_books((0, 1)):
            if book.lets(one) and book.lets(other):
                self.check(book, one, other)
        self.assertEqual(how_many_ways(Book(Ties((0, 1))), one, other), 512)
        one, other = chain((1, 0), 0, [1, 4, 7, 8]), chain((1, 0), 0, [2, 3, 8, 9])
        for book in all_books((1, 0)):
            if book.lets(one) and book.lets(other):
                self.check(book, one, other)

    def test_four_ties_of_four(self):
        one, other = chain((0, 1, 3, 2), 2, [1, 4, 7]), chain((0, 1, 3, 2), 0, [2, 3, 7])
        book = Book(Ties((0, 1, 3, 2)), [(0, 1, 2), (1, 1, 1)])
        self.check(book, one, other)
        self.assertEqual(how_many_ways(Book(book.ties), one, other), 256)

    def test_order_of_the_crossings(self):
        one, other = chain((0, 1), 0, [5, 6]), chain((0, 1), 0, [1, 2])
        ways = list(merge_ways(Book(Ties((0, 1))), one, other))
        self.assertEqual(
            ways, [with_crossing(one, other, crossing) for crossing in product((0, 1), repeat=4)])

    def test_order_by_hand(self):
        # [4.10] by the entries 1 to 3, 2 to 3, 1 to 4, 2 to 4: no row or column of them is all 0.
        book = Book(Ties((0, 1)), [(0, 0, 0), (0, 0, 1)])
        one, other = chain((0, 1), 1, [1, 2]), chain((0, 1), 1, [3, 4])
        crossings = [
            (0, 1, 1, 0), (0, 1, 1, 1), (1, 0, 0, 1), (1, 0, 1, 1), (1, 1, 0, 1), (1, 1, 1, 0), (1, 1, 1, 1)]
        ways = [
            Company(book.ties, (1, 2, 3, 4), ((), (1,), (a, b), (c, d, 1))) for a, b, c, d in crossings]
        self.assertEqual(list(merge_ways(book, one, other)), ways)
        self.assertEqual(how_many_ways(book, one, other), 7)
        for place, way in enumerate(ways):
            self.assertEqual(way_at(book, one, other, place), way)
            self.assertEqual(way_place(book, one, other, way), place)

    def test_nobody_is_made_one(self):
        book = Book(Ties((0, 1)), [(0, 0, 0), (0, 0, 1)])
        one, other = chain((0, 1), 0, [1, 2]), chain((0, 1), 0, [1, 3])
        self.assertEqual(list(merge_ways(book, one, other)), [])
        self.assertEqual(how_many_ways(book, one, other), 0)
        self.assertIsNone(way_place(book, one, other, one))
        with self.assertRaises(NoWay):
            way_at(book, one, other, 0)


class TestPlaces(unittest.TestCase):
    def setUp(self):
        self.book = Book(Ties((0, 1)), [(0, 0, 1)])
        self.one, self.other = chain((0, 1), 1, [1, 2]), chain((0, 1), 1, [1, 3])

    def test_none_of_them(self):
        ties = Ties((0, 1))
        self.assertEqual(how_many_ways(self.book, self.one, self.other), 2)
        for told in (
            Company(ties), chain((0, 1), 1, [1, 2]), chain((0, 1), 1, [1, 2, 4]), chain((0, 1), 0, [1, 2, 3]),
            chain((0, 1, 2), 1, [1, 2, 3]), Company(ties, (1, 2, 3), ((), (1,), (0, 0))),
            chain((0, 1), 1, [1, 2, 3, 4]),
        ):
            self.assertIsNone(way_place(self.book, self.one, self.other, told))
        self.assertEqual(way_place(self.book, self.one, self.other, chain((0, 1), 1, [1, 2, 3])), 1)

    def test_a_company_that_is_not_let(self):
        one, other = chain((0, 1), 0, [1, 2]), chain((0, 1), 1, [1, 3])
        self.assertIsNone(way_place(self.book, one, other, with_crossing(one, other, (0,))))
        self.assertEqual(way_place(self.book, one, other, with_crossing(one, other, (1,))), 0)

    def test_no_way(self):
        for number in (True, False, None, "0", -1, 2, 0.0, (0,)):
            with self.assertRaises(NoWay) as caught:
                way_at(self.book, self.one, self.other, number)
            self.assertIs(caught.exception.number, number)
        self.assertEqual(way_at(self.book, self.one, self.other, 1), chain((0, 1), 1, [1, 2, 3]))


class TestErrors(unittest.TestCase):
    def calls(self, *told):
        return (
            lambda: list(merge_ways(*told)), lambda: how_many_ways(*told), lambda: way_at(*told, None),
            lambda: way_place(*told, None),
        )

    def refused(self, error, *told, **fields):
        for call in self.calls(*told):
            with self.assertRaises(error) as caught:
                call()
            self.assertEqual(vars(caught.exception), fields)

    def test_in_order(self):
        book = Book(Ties((0, 1)), [(0, 0, 0)])
        five = list(range(1, 6))
        self.refused(OtherTies, book, chain((1, 0), 0, five), chain((0, 1), 0, five))
        self.refused(OtherTies, book, chain((0, 1), 0, five), chain((0, 1, 2), 0, five))
        self.refused(NotLet, book, chain((0, 1), 0, five), chain((0, 1), 0, five), what="one")
        self.refused(NotLet, book, chain((0, 1), 1, five), chain((0, 1), 0, five), what="other")
        self.refused(
            CannotMerge, book, chain((0, 1), 1, five), chain((0, 1), 0, [4, 5]), what="differ", labels=(4, 5))
        self.refused(
            CannotMerge, book, chain((0, 1), 1, list(range(60))), chain((0, 1), 1, [60]), what="many", labels=())

    def test_too_many(self):
        book = Book(Ties((0, 1)))
        four, five = chain((0, 1), 0, [1, 2, 3, 4]), chain((0, 1), 0, [5, 6, 7, 8, 9])
        self.refused(TooMany, book, four, five, count=4)
        self.refused(TooMany, book, five, four, count=5)
        self.refused(TooMany, book, four, five.part_of([5]), count=4)
        self.refused(TooMany, book, four.part_of([1]), five, count=5)
        self.refused(TooMany, book, four, Company(book.ties), count=4)
        self.refused(TooMany, book, Company(book.ties), four, count=4)

    def test_sixty_together(self):
        book = Book(Ties((0, 1)), [(0, 0, 1)])
        core = list(range(57))
        one, other = chain((0, 1), 0, core + [57, 58]), chain((0, 1), 0, core + [59])
        self.assertEqual(list(merge_ways(book, one, other)), [chain((0, 1), 0, list(range(60)))])
        self.refused(
            CannotMerge, book, one, chain((0, 1), 0, core + [59, 60]), what="many", labels=())


if __name__ == "__main__":
    unittest.main()
