"""[0.2], [3.4] to [3.6], [3.11]: verdicts."""

import unittest
from itertools import product

from joinedguests.book import Book
from joinedguests.company import Company
from joinedguests.ties import Ties
from joinedguests.verdict import (
    Clash, Joins, Strict, Verdict, all_clashes, joins, joins_strictly, least_clash, verdict_of,
)
from oracle import BACKS, all_books, bars, chain, classes, closed, company, fine, lawful, search, unfine_pairs

# Books with the kind of their verdict and the number of guests of their least clash.
WIDE = (
    ((0, 1, 2), ((0, 0, 0), (1, 1, 1), (2, 2, 2)), "clash", 4),
    ((0, 1, 2), (), "strict", None),
    ((0, 1, 2, 3), ((0, 0, 0), (1, 1, 1), (2, 2, 2), (3, 3, 3)), "clash", 5),
    ((0, 1, 2, 3), ((0, 2, 3), (1, 1, 2), (2, 2, 2)), "clash", 4),
    ((0, 1, 2, 3), ((0, 0, 0), (0, 0, 2), (0, 0, 3), (0, 1, 3), (0, 2, 2)), "clash", 3),
    ((0, 1, 2, 3), ((0, 1, 1), (0, 1, 2), (0, 2, 3), (1, 2, 3)), "clash", 2),
    ((0, 1, 2, 3), classes((0, 1, 2, 3)), "clash", 1),
    ((0, 1, 2, 3), ((0, 0, 3),), "strict", None),
    ((0, 1, 2, 3), (
        (0, 0, 1), (0, 1, 1), (0, 1, 3), (0, 2, 3), (0, 3, 3), (1, 1, 1), (1, 2, 3), (1, 3, 3), (2, 3, 3),
        (3, 3, 3)), "joins", None),
    ((0, 1, 2, 3), (
        (0, 0, 1), (0, 0, 2), (0, 0, 3), (0, 1, 1), (0, 1, 2), (0, 2, 3), (1, 1, 2), (1, 1, 3), (1, 2, 3),
        (2, 2, 2), (2, 3, 3)), "joins", None),
    ((0, 1, 3, 2), ((0, 2, 2), (1, 1, 1)), "clash", 4),
    ((0, 1, 3, 2), ((0, 0, 0), (0, 0, 1), (0, 1, 3), (1, 1, 1)), "clash", 3),
    ((0, 1, 3, 2), (), "strict", None),
    ((0, 1, 3, 2), (
        (0, 0, 0), (0, 0, 1), (0, 0, 2), (0, 1, 2), (0, 1, 3), (0, 2, 2), (0, 3, 3), (1, 1, 1), (1, 2, 2),
        (1, 2, 3), (1, 3, 3), (2, 2, 2), (2, 2, 3)), "joins", None),
    ((1, 0, 3, 2), ((0, 0, 1), (0, 2, 3)), "clash", 4),
    ((1, 0, 3, 2), ((0, 2, 2), (0, 3, 2)), "clash", 2),
    ((1, 0, 3, 2), ((0, 0, 0),), "strict", None),
    ((1, 0, 3, 2), (
        (0, 0, 0), (0, 0, 2), (0, 0, 3), (0, 2, 2), (0, 2, 3), (0, 3, 2), (0, 3, 3), (2, 2, 2)), "joins", None),
)


class VerdictCase(unittest.TestCase):
    def check(self, book, kind, size):
        """Check all four functions against the kind and the size of the smallest clash."""
        told = verdict_of(book)
        self.assertEqual(told.KIND, kind, book.least_barred)
        self.assertIs(joins(book), kind != "clash")
        self.assertIs(joins_strictly(book), kind == "strict")
        least = least_clash(book)
        if kind == "clash":
            self.check_clash(book, told)
            self.check_clash(book, least)
            self.assertEqual(len(least.company), size)
        else:
            self.assertIsNone(least)
        if kind == "joins":
            self.assertIs(type(told), Joins)
            self.assertLessEqual(len(told.company), book.ties.many)
            self.check_witnesses(book, told.company, told.row, told.row, told.witnesses)
        if kind == "strict":
            self.assertEqual(told, Strict())

    def check_clash(self, book, clash):
        self.assertIs(type(clash), Clash)
        self.assertLessEqual(len(clash.company), book.ties.many + 1)
        self.assertNotEqual(clash.one, clash.other)
        self.check_witnesses(book, clash.company, clash.one, clash.other, clash.witnesses)

    def check_witnesses(self, book, told, one, other, witnesses):
        self.assertTrue(book.lets(told))
        for part in (one, other, witnesses):
            self.assertIs(type(part), tuple)
        for row in (one, other):
            self.assertIn(row, list(book.lawful_rows(told)))
        self.assertEqual(len(witnesses), book.ties.many)
        for tie, label in enumerate(witnesses):
            place = told.guests.index(label)
            self.assertIn((one[place], book.ties.backs[other[place]], tie), book.barred)


class TestVerdicts(VerdictCase):
    def test_all_books_of_two_ties(self):
        kinds = []
        for backs in ((0, 1), (1, 0)):
            for book in all_books(backs):
                kind, size = search(backs, book.barred, 3)
                kinds.append(kind)
                self.check(book, kind, size)
        self.assertEqual(len(kinds), 20)
        self.assertEqual([kinds.count(kind) for kind in ("strict", "joins", "clash")], [9, 5, 6])

    def test_books_of_two_ties_by_hand(self):
        for threes, kind, size in [
            ([], "strict", None), ([(0, 0, 1)], "strict", None), ([(0, 0, 0), (0, 0, 1)], "joins", None),
            ([(0, 0, 0), (1, 1, 1)], "clash", 3), ([(0, 0, 1), (0, 1, 1)], "clash", 1),
        ]:
            self.check(Book(Ties((0, 1)), threes), kind, size)
        for threes, kind, size in [
            ([], "strict", None), ([(0, 0, 1)], "strict", None), ([(0, 0, 0)], "joins", None),
            ([(0, 0, 0), (0, 0, 1)], "clash", 1),
        ]:
            self.check(Book(Ties((1, 0)), threes), kind, size)

    def test_all_books_with_one_tie_and_a_one_way_tie(self):
        kinds = []
        for book in all_books((0, 2, 1)):
            kind, size = search((0, 2, 1), book.barred, 4)
            kinds.append((kind, size))
            self.check(book, kind, size)
        self.assertEqual(
            {told: kinds.count(told) for told in kinds},
            {("strict", None): 16, ("joins", None): 7, ("clash", 1): 34, ("clash", 2): 52, ("clash", 3): 19})

    def test_some_books_of_three_ties(self):
        for book in all_books((0, 1, 2))[5::37]:
            self.check(book, *search((0, 1, 2), book.barred, 4))

    def test_books_of_three_and_four_ties(self):
        for backs, threes, kind, size in WIDE:
            self.check(Book(Ties(backs), threes), kind, size)

    def test_small_companies_of_these_books(self):
        for backs, threes, kind, size in WIDE:
            found, clash_size = search(backs, closed(backs, threes), 2)
            if size is not None and size <= 2:
                self.assertEqual((found, clash_size), ("clash", size))
            else:
                self.assertIn((found, clash_size), {("strict", None), (kind, None), ("joins", None)})

    def test_nothing_barred_joins_strictly(self):
        for backs in BACKS:
            self.check(Book(Ties(backs)), "strict", None)
            self.check(Book(Ties(backs), classes(backs)), "clash", 1)

    def test_least_labels(self):
        # The seats have the labels 0, 1, ..
        clash = least_clash(Book(Ties((0, 1)), [(0, 0, 0), (1, 1, 1)]))
        self.assertEqual(clash.company.guests, (0, 1, 2))


class TestAllClashes(unittest.TestCase):
    def expected(self, book, count):
        backs, barred, labels = book.ties.backs, book.barred, list(range(count))
        return [
            Clash(company(backs, rows), one, other, bars(backs, barred, labels, one, other))
            for rows, one, other in unfine_pairs(backs, barred, count) if one != other
        ]

    def test_all_in_order_and_none_twice(self):
        for backs, most, books in [
            ((0, 1), 3, all_books((0, 1))), ((1, 0), 3, all_books((1, 0))),
            ((0, 2, 1), 3, all_books((0, 2, 1))[7::24]), ((0, 1, 2), 3, all_books((0, 1, 2))[63::200]),
            ((0, 1, 2, 3), 2, [Book(Ties(told[0]), told[1]) for told in WIDE if told[0] == (0, 1, 2, 3)]),
            ((1, 0, 3, 2), 2, [Book(Ties(told[0]), told[1]) for told in WIDE if told[0] == (1, 0, 3, 2)]),
        ]:
            for book in books:
                for count in range(most + 1):
                    found = list(all_clashes(book, count))
                    self.assertEqual(found, self.expected(book, count))
                    keys = [(clash.company.rows, clash.one, clash.other) for clash in found]
                    self.assertEqual(keys, sorted(set(keys)))

    def test_exchanged_newcomers_are_another_clash(self):
        found = list(all_clashes(Book(Ties((0, 1)), [(0, 0, 1), (0, 1, 1)]), 1))
        self.assertEqual([(clash.one, clash.other) for clash in found], [((0,), (1,)), ((1,), (0,))])
        self.assertEqual([clash.witnesses for clash in found], [(0, 0), (0, 0)])

    def test_nobody(self):
        for backs in BACKS:
            self.assertEqual(list(all_clashes(Book(Ties(backs), classes(backs)), 0)), [])


class TestClasses(unittest.TestCase):
    def test_kinds(self):
        self.assertEqual([told.KIND for told in (Verdict, Strict, Joins, Clash)], ["", "strict", "joins", "clash"])
        for told in (Strict, Joins, Clash):
            self.assertEqual(told.__bases__, (Verdict,))
            self.assertIn("KIND", vars(told))
            self.assertIn("__eq__", vars(told))
        self.assertEqual((Verdict().KIND, Strict().KIND), ("", "strict"))

    def test_arguments_are_kept(self):
        told, row, other, witnesses = chain((0, 1), 0, [1]), [None], (3,), ["a"]
        one = Joins(told, row, witnesses)
        two = Clash(told, row, other, witnesses)
        self.assertEqual(list(vars(one)), ["company", "row", "witnesses"])
        self.assertEqual(list(vars(two)), ["company", "one", "other", "witnesses"])
        self.assertIs(one.company, told)
        self.assertIs(one.row, row)
        self.assertIs(one.witnesses, witnesses)
        for name, thing in (("company", told), ("one", row), ("other", other), ("witnesses", witnesses)):
            self.assertIs(getattr(two, name), thing)

    def test_equality(self):
        first, second = chain((0, 1), 0, [1]), chain((0, 1), 0, [2])
        self.assertEqual(Strict(), Strict())
        self.assertEqual(Joins(first, (0,), (1, 1)), Joins(chain((0, 1), 0, [1]), (0,), (1, 1)))
        self.assertEqual(Clash(first, (0,), (1,), (1, 1)), Clash(chain((0, 1), 0, [1]), (0,), (1,), (1, 1)))
        for unlike in (Joins(second, (0,), (1, 1)), Joins(first, (1,), (1, 1)), Joins(first, (0,), (1, 2)),
                       Joins(first, (0,), (1, True)), Joins(first, (False,), (1, 1)), Strict(), None,
                       Clash(first, (0,), (0,), (1, 1))):
            self.assertFalse(Joins(first, (0,), (1, 1)) == unlike)
        for unlike in (Clash(second, (0,), (1,), (1, 1)), Clash(first, (1,), (1,), (1, 1)),
                       Clash(first, (0,), (0,), (1, 1)), Clash(first, (0,), (1,), (1, 2)),
                       Clash(first, (0,), (True,), (1, 1)), Strict(), None, Joins(first, (0,), (1, 1))):
            self.assertFalse(Clash(first, (0,), (1,), (1, 1)) == unlike)
        for unlike in (Verdict(), None, "strict", Joins(first, (0,), (1, 1))):
            self.assertFalse(Strict() == unlike)


class TestSearch(unittest.TestCase):
    def test_the_search_looks_at_fine_ties(self):
        for backs, count in product(((0, 1), (1, 0)), range(3)):
            for book in all_books(backs):
                for rows, one, other in unfine_pairs(backs, book.barred, count):
                    self.assertIn(one, lawful(backs, book.barred, rows))
                    self.assertEqual(fine(backs, book.barred, one, other), ())
        self.assertEqual(Company(Ties((0, 1))).rows, ())


if __name__ == "__main__":
    unittest.main()
