"""[2.2] to [2.7]: books."""

import unittest
from itertools import combinations, product

from joinedguests.book import Book
from joinedguests.company import Company
from joinedguests.errors import BadBook, NoThree, NoTie, OtherTies, TooMany
from joinedguests.likeness import least_form
from joinedguests.ties import Ties
from oracle import BACKS, all_books, all_rows, chain, classes, closed, company, first_barred, lawful, let_rows

ODD_TIES = (True, False, None, "0", -1, 2, (0,))
ODD_THREES = (None, (0, 0), (0, 0, 2), (0, 0, True), "000", 0)


def some_books(backs):
    """Books over these backs, from few to many barred threes."""
    kinds = classes(backs)
    chosen = [(), kinds, kinds[::2], kinds[1::3], kinds[:1], kinds[-2:], kinds[2:7:2]]
    return [Book(Ties(backs), threes) for threes in chosen]


class TestMaking(unittest.TestCase):
    def test_attributes(self):
        for backs in BACKS:
            for threes in [(), *combinations(classes(backs)[-4:], 2)]:
                book = Book(Ties(backs), list(threes) * 2)
                barred = closed(backs, threes)
                self.assertEqual(book.ties, Ties(backs))
                self.assertEqual(book.barred, tuple(sorted(barred)))
                self.assertEqual(book.least_barred, tuple(three for three in classes(backs) if three in barred))

    def test_any_reading_in_any_order(self):
        ties = Ties((0, 2, 1))
        book = Book(ties, ((0, 0, 1), (1, 1, 2)))
        barred = sorted(closed((0, 2, 1), [(0, 0, 1), (1, 1, 2)]))
        for reading in barred:
            self.assertEqual(Book(ties, [list(reading), (1, 1, 2), (0, 0, 1)]), book)
        self.assertEqual(Book(ties, barred[::-1]), book)
        self.assertEqual(Book(ties).barred, ())

    def test_letting(self):
        for backs in BACKS[:8]:
            ties = Ties(backs)
            for book in some_books(backs):
                let = [three for three in product(range(len(backs)), repeat=3) if three not in book.barred]
                self.assertEqual(Book.letting(ties, let), book)
                self.assertEqual(Book.letting(ties, [list(three) for three in let if three in classes(backs)]), book)

    def refused(self, index, what, call, *arguments):
        with self.assertRaises(BadBook) as caught:
            call(*arguments)
        self.assertEqual((caught.exception.index, caught.exception.what), (index, what))

    def test_refusals(self):
        ties = Ties((0, 1))
        for call, word in ((Book, "barred"), (Book.letting, "threes")):
            for thing in (None, (0, 1), 2, "01"):
                self.refused(0, "ties", call, thing, None)
            for thing in (None, 3, "ab", {(0, 0, 0): 1}):
                self.refused(0, word, call, ties, thing)
            for three in ODD_THREES:
                self.refused(0, "three", call, ties, (three,))
                self.refused(2, "three", call, ties, [(0, 0, 0), [1, 1, 1], three, None])

    def test_a_list_changed_later(self):
        threes = [[0, 0, 1]]
        book = Book(Ties((0, 1)), threes)
        threes[0][2] = 0
        threes.append(None)
        self.assertEqual(book.barred, ((0, 0, 1), (0, 1, 0), (1, 0, 0)))

    def test_equality(self):
        ties = Ties((0, 1))
        self.assertEqual(Book(ties, [(0, 1, 0)]), Book(Ties([0, 1]), [(1, 0, 0)]))
        self.assertNotEqual(Book(ties, [(0, 1, 0)]), Book(ties))
        self.assertNotEqual(Book(ties), Book(Ties((1, 0))))
        self.assertFalse(Book(ties) == ())
        self.assertFalse(Book(ties) == ties)


class TestThrees(unittest.TestCase):
    def test_bars_fitting_barring(self):
        for backs in BACKS:
            many = range(len(backs))
            for book in some_books(backs):
                barred = closed(backs, book.least_barred)
                for p, q in product(many, many):
                    self.assertEqual(book.fitting(p, q), tuple(r for r in many if (p, q, r) not in barred))
                    for r in many:
                        self.assertIs(book.bars(p, q, r), (p, q, r) in barred)
                for t in many:
                    self.assertEqual(
                        book.barring(t), tuple(pair for pair in product(many, many) if pair + (t,) in barred))

    def test_no_tie(self):
        book = Book(Ties((0, 1)), [(0, 0, 1)])
        for tie in ODD_TIES:
            for call, arguments in [
                (book.bars, (tie, None, None)), (book.bars, (0, tie, None)), (book.bars, (1, 0, tie)),
                (book.fitting, (tie, None)), (book.fitting, (1, tie)), (book.barring, (tie,)),
            ]:
                with self.assertRaises(NoTie) as caught:
                    call(*arguments)
                self.assertIs(caught.exception.tie, tie)


class TestCompanies(unittest.TestCase):
    def test_company_fault(self):
        for backs, count in (((0, 1), 5), ((1, 0), 5), ((0, 2, 1), 4), ((0, 1, 2), 3), ((1, 0, 3, 2), 3)):
            labels = [7 * at + 2 for at in range(count)]
            every = all_rows(backs, count)
            for book in some_books(backs):
                barred = closed(backs, book.least_barred)
                for rows in every[::1 + len(every) // 60]:
                    places = first_barred(backs, barred, rows)
                    expected = None if places is None else tuple(labels[place] for place in places)
                    told = company(backs, rows, labels)
                    self.assertEqual(book.company_fault(told), expected)
                    self.assertIs(book.lets(told), expected is None)

    def test_two_guests_alone_may_have_any_tie(self):
        for backs in BACKS:
            book = Book(Ties(backs), classes(backs))
            for count in range(3):
                for rows in all_rows(backs, count):
                    self.assertIs(book.lets(company(backs, rows)), True)
            self.assertEqual(book.company_fault(chain(backs, 0, [3, 5, 9, 10])), (3, 5, 9))

    def test_first_labels_in_order(self):
        book = Book(Ties((0, 1)), [(1, 1, 1)])
        rows = ((), (0,), (0, 1), (1, 0, 0), (1, 1, 1, 1))
        self.assertEqual(book.company_fault(company((0, 1), rows)), (0, 3, 4))

    def test_sixty_guests(self):
        book = Book(Ties((1, 0)), [(0, 0, 1)])
        told = chain((1, 0), 0, list(range(60)))
        self.assertIsNone(book.company_fault(told))
        last = told.without(59).with_row(59, (1,) + (0,) * 57 + (1,))
        # Guests 1, 58 and 59 are the first ring of ties 0.
        self.assertEqual(book.company_fault(last), (1, 58, 59))

    def test_other_ties(self):
        book = Book(Ties((0, 1)))
        for backs in ((1, 0), (0, 1, 2)):
            for call in (
                book.company_fault, book.lets, lambda told: list(book.lawful_rows(told)),
                lambda told: book.row_fault(told, None),
            ):
                with self.assertRaises(OtherTies):
                    call(Company(Ties(backs)))


class TestRows(unittest.TestCase):
    def test_lawful_rows_and_row_fault(self):
        for backs, most in (((0, 1), 4), ((1, 0), 4), ((0, 2, 1), 3), ((0, 1, 3, 2), 2)):
            for book in some_books(backs):
                barred = closed(backs, book.least_barred)
                for count in range(most + 1):
                    labels = [5 * at + 1 for at in range(count)]
                    for rows in all_rows(backs, count)[::7]:
                        told = company(backs, rows, labels)
                        expected = lawful(backs, barred, rows)
                        self.assertEqual(list(book.lawful_rows(told)), expected)
                        self.check_faults(book, told, expected)

    def check_faults(self, book, told, rows):
        for row in product(range(book.ties.many), repeat=len(told)):
            fault = book.row_fault(told, list(row))
            self.assertEqual(fault is None, row in rows)
            couples = [
                (a, b) for a, b in combinations(told.guests, 2)
                if (row[told.guests.index(a)], told.tie_of(a, b), row[told.guests.index(b)]) in book.barred
            ]
            self.assertEqual(fault, couples[0] if couples else None)

    def test_lawful_if_the_company_with_the_newcomer_is_let(self):
        for book in some_books((0, 2, 1)):
            for rows in let_rows((0, 2, 1), book.barred, 3)[::5]:
                told = company((0, 2, 1), rows)
                for row in product(range(3), repeat=3):
                    self.assertEqual(book.row_fault(told, row) is None, book.lets(told.with_row(3, row)))

    def test_a_company_that_is_not_let(self):
        # Whether the company is let is not asked: only threes with the newcomer count.
        book = Book(Ties((0, 1)), [(1, 1, 1)])
        told = chain((0, 1), 1, [1, 2, 3])
        self.assertEqual(
            list(book.lawful_rows(told)), [(0, 0, 0), (0, 0, 1), (0, 1, 0), (1, 0, 0)])
        self.assertEqual(book.row_fault(told, (0, 1, 1)), (2, 3))

    def test_bounds(self):
        book = Book(Ties((0, 1)))
        ten = chain((0, 1), 0, list(range(10)))
        self.assertEqual(list(book.lawful_rows(ten)), list(product((0, 1), repeat=10)))
        book = Book(Ties((1, 0)), [(0, 0, 1)])
        ten = chain((1, 0), 0, list(range(10)))
        self.assertEqual(
            list(book.lawful_rows(ten)),
            [row for row in product((0, 1), repeat=10) if book.lets(ten.with_row(10, row))])
        five = chain((0, 1, 2, 3), 2, list(range(5)))
        self.assertEqual(list(Book(five.ties).lawful_rows(five)), list(product(range(4), repeat=5)))

    def test_length_and_tie(self):
        book = Book(Ties((0, 1)), [(0, 0, 0)])
        told = chain((0, 1), 0, [4, 8])
        for row in (None, 0, "01", (), (0,), (0, 0, 0), {0: 0, 1: 1}):
            self.assertEqual(book.row_fault(told, row), "length")
        for tie in ODD_TIES:
            self.assertEqual(book.row_fault(told, (0, tie)), "tie")
            self.assertEqual(book.row_fault(told, [tie, 0]), "tie")
        self.assertEqual(book.row_fault(told, (True, 0, 0)), "length")
        self.assertEqual(book.row_fault(told, (0, 0)), (4, 8))
        self.assertIsNone(book.row_fault(Company(told.ties), ()))
        self.assertEqual(list(book.lawful_rows(Company(told.ties))), [()])

    def test_row_of_a_one_way_tie(self):
        # (entry at a, tie from a to b, entry at b): 0 to the first, 0 from first to second, 1 to the second.
        book = Book(Ties((1, 0)), [(0, 0, 1)])
        told = company((1, 0), ((), (1,)))
        self.assertEqual(told.tie_of(0, 1), 0)
        self.assertEqual(book.row_fault(told, (0, 1)), (0, 1))
        self.assertIsNone(book.row_fault(told, (1, 0)))


class TestAllCompanies(unittest.TestCase):
    def test_at_the_bounds(self):
        for backs in ((0, 1), (1, 0)):
            for book in all_books(backs):
                self.check(book, backs, 5)
        for book in some_books((0, 2, 1)):
            self.check(book, (0, 2, 1), 4)
        for book in some_books((1, 0, 3, 2))[1:3]:
            self.check(book, (1, 0, 3, 2), 4)

    def check(self, book, backs, most):
        barred = closed(backs, book.least_barred)
        for count in range(most + 1):
            expected = let_rows(backs, barred, count)
            found = list(book.all_companies(count))
            self.assertEqual([told.rows for told in found], expected)
            self.assertEqual({told.guests for told in found} | {tuple(range(count))}, {tuple(range(count))})
            self.assertEqual(book.how_many_companies(count), len(expected))
            if count < 5:
                forms = [told for told in found if told == least_form(told)]
                self.assertEqual(list(book.patterns(count)), forms)
                self.assertEqual({least_form(told).rows for told in found}, {told.rows for told in forms})

    def test_known_numbers(self):
        for backs, most, companies, patterns in [
            ((0, 1), 5, [1, 1, 2, 8, 64, 1024], [1, 1, 2, 4, 11, 34]),
            ((1, 0), 5, [1, 1, 2, 8, 64, 1024], [1, 1, 1, 2, 4, 12]),
            ((0, 1, 2), 4, [1, 1, 3, 27, 729], [1, 1, 3, 10, 66]),
        ]:
            book = Book(Ties(backs))
            self.assertEqual([book.how_many_companies(n) for n in range(most + 1)], companies)
            self.assertEqual([len(list(book.patterns(n))) for n in range(most + 1)], patterns)
        self.assertEqual(Book(Ties((0, 1, 2, 3))).how_many_companies(4), 4096)

    def test_too_many(self):
        for backs, beyond in (((0, 1), 6), ((1, 0), 6), ((0, 1, 2), 5), ((0, 1, 2, 3), 5)):
            book = Book(Ties(backs), classes(backs))
            for n in (beyond, -1, True, False, None, "1", 2.0):
                for call in (
                    lambda n: list(book.all_companies(n)), lambda n: list(book.patterns(n)), book.how_many_companies,
                ):
                    with self.assertRaises(TooMany) as caught:
                        call(n)
                    self.assertIs(caught.exception.count, n)


class TestChanged(unittest.TestCase):
    def test_operators(self):
        for backs in BACKS[:4]:
            for one, other in product(some_books(backs), repeat=2):
                either, both = one | other, one & other
                self.assertEqual(either.barred, tuple(sorted(set(one.barred) | set(other.barred))))
                self.assertEqual(both.barred, tuple(sorted(set(one.barred) & set(other.barred))))
                self.assertIs(type(either), Book)
                self.assertEqual((either.ties, both.ties), (one.ties, one.ties))

    def test_a_company_is_let_by_either_exactly_if_both_let_it(self):
        for one, other in product(all_books((1, 0)), repeat=2):
            for rows in all_rows((1, 0), 4):
                told = company((1, 0), rows)
                self.assertEqual((one | other).lets(told), one.lets(told) and other.lets(told))

    def test_operators_refuse_other_ties(self):
        for backs in ((1, 0), (0, 1, 2)):
            for call in (lambda a, b: a | b, lambda a, b: a & b):
                with self.assertRaises(OtherTies):
                    call(Book(Ties((0, 1))), Book(Ties(backs)))

    def test_operands_stay(self):
        one, other = Book(Ties((0, 1)), [(0, 0, 0)]), Book(Ties((0, 1)), [(1, 1, 1)])
        self.assertEqual((one | other).barred, ((0, 0, 0), (1, 1, 1)))
        self.assertEqual((one & other).barred, ())
        self.assertEqual((one.barred, other.barred), (((0, 0, 0),), ((1, 1, 1),)))

    def test_with_barred_and_without_barred(self):
        for backs in BACKS[:6]:
            for book in some_books(backs):
                for three in product(range(len(backs)), repeat=3):
                    readings = closed(backs, [three])
                    more, fewer = book.with_barred(list(three)), book.without_barred(list(three))
                    self.assertEqual(more.barred, tuple(sorted(set(book.barred) | readings)))
                    self.assertEqual(fewer.barred, tuple(sorted(set(book.barred) - readings)))
                    self.assertEqual((more == book, fewer == book), (three in book.barred, three not in book.barred))

    def test_no_three(self):
        book = Book(Ties((0, 1)))
        for three in ODD_THREES + ([0, 0, 2],):
            for call in (book.with_barred, book.without_barred):
                with self.assertRaises(NoThree) as caught:
                    call(three)
                self.assertIs(caught.exception.three, three)


class TestRenamedTies(unittest.TestCase):
    def test_names(self):
        book = Book(Ties((0, 2, 1)), [(0, 0, 1), (1, 1, 2)])
        self.assertEqual(book.renamed_ties(((0, 0), (1, 1), (2, 2))), book)
        renamed = book.renamed_ties([[2, 1], [0, 0], (1, 2)])
        names = {0: 0, 1: 2, 2: 1}
        self.assertEqual(
            renamed.barred, tuple(sorted((names[p], names[q], names[r]) for p, q, r in book.barred)))
        self.assertEqual(renamed.ties, book.ties)
        four = Book(Ties((1, 0, 3, 2)), [(0, 0, 0), (0, 2, 3)])
        self.assertEqual(
            four.renamed_ties(((0, 3), (1, 2), (2, 0), (3, 1))),
            Book(Ties((1, 0, 3, 2)), [(3, 3, 3), (3, 0, 1)]))

    def refused(self, index, what, pairs, backs=(0, 1)):
        with self.assertRaises(BadBook) as caught:
            Book(Ties(backs)).renamed_ties(pairs)
        self.assertEqual((caught.exception.index, caught.exception.what), (index, what), pairs)

    def test_pairs(self):
        for pairs in (None, 3, "ab", {0: 1, 1: 0}):
            self.refused(0, "pairs", pairs)

    def test_pair(self):
        for pair in (None, 0, "01", (0,), (0, 1, 0), (True, 0), (0, False), (2, 0), (0, 2), (0, None)):
            self.refused(0, "pair", (pair, None))
            self.refused(1, "pair", ((0, 1), pair, (0, 0)))

    def test_double(self):
        self.refused(1, "double", ((0, 1), (0, 0)))
        self.refused(1, "double", ((0, 1), (1, 1)))
        self.refused(2, "double", ((0, 1), (1, 0), (1, 0)))
        self.refused(1, "double", ((0, 1), (1, 1), None))

    def test_lacking(self):
        self.refused(0, "lacking", ())
        self.refused(1, "lacking", [(1, 0)])
        self.refused(2, "lacking", ((0, 1), (1, 0)), (0, 2, 1))

    def test_back(self):
        self.refused(0, "back", ((0, 1), (1, 0), (2, 2)), (0, 2, 1))
        self.refused(0, "back", ((1, 1), (0, 2), (2, 0)), (1, 0, 2))
        self.refused(0, "back", ((0, 0), (1, 2), (2, 1), (3, 3)), (1, 0, 3, 2))

    def test_back_of_the_first_couple_in_the_order_passed(self):
        backs = (0, 1, 3, 2)
        self.refused(1, "back", ((0, 1), (1, 2), (2, 3), (3, 0)), backs)
        self.refused(0, "back", ((1, 2), (0, 1), (2, 3), (3, 0)), backs)


if __name__ == "__main__":
    unittest.main()
