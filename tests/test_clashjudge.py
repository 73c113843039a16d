"""[3.10], [3.12]: judges of verdicts, least and reduced clashes."""

import unittest
from itertools import product

from joinedguests.book import Book
from joinedguests.clashjudge import clash_fault, is_least, joins_fault, reduce_clash
from joinedguests.company import Company
from joinedguests.errors import BadClash
from joinedguests.ties import Ties
from joinedguests.verdict import Clash, Joins, all_clashes, least_clash, verdict_of
from oracle import all_books, bars, chain, classes, company, fine

ODD_ROWS = (None, 0, "000", (), (0, 1), (0, 1, 1, 0), (0, 1, 2), (True, 0, 1), (0, None, 1))


def rings():
    """Two ties, no three guests with like ties: the least clash has three guests."""
    return Book(Ties((0, 1)), [(0, 0, 0), (1, 1, 1)])


def ring_clash():
    """A right clash of `rings`; guest 4 bars tie 0, guest 6 bars tie 1, at guest 9 the rows differ."""
    told = Company(Ties((0, 1)), (4, 6, 9), ((), (0,), (1, 0)))
    return Clash(told, (0, 1, 0), (0, 1, 1), (4, 6))


class TestClashFault(unittest.TestCase):
    def fault(self, book=None, **changes):
        clash = ring_clash()
        told = {"company": clash.company, "one": clash.one, "other": clash.other, "witnesses": clash.witnesses}
        told.update(changes)
        return clash_fault(book or rings(), Clash(**told))

    def test_right(self):
        self.assertIsNone(self.fault())
        self.assertIsNone(self.fault(one=[0, 1, 0], other=[0, 1, 1], witnesses=[4, 6]))

    def test_the_package_s_own(self):
        for backs in ((0, 1), (1, 0)):
            for book in all_books(backs):
                for count in range(4):
                    for clash in all_clashes(book, count):
                        self.assertIsNone(clash_fault(book, clash))

    def test_company(self):
        self.assertEqual(self.fault(company=chain((0, 1), 0, [4, 6, 9])), "company")
        self.assertEqual(self.fault(company=chain((0, 1, 2), 0, [4, 6, 9])), "company")
        self.assertEqual(self.fault(book=Book(Ties((1, 0)))), "company")
        self.assertEqual(self.fault(company=chain((0, 1), 0, [4, 6, 9]), one=None, witnesses=()), "company")

    def test_one_and_other(self):
        for row in ODD_ROWS + ((0, 0, 0),):
            self.assertEqual(self.fault(one=row), "one")
            self.assertEqual(self.fault(one=row, other=row), "one")
            self.assertEqual(self.fault(other=row), "other")
            self.assertEqual(self.fault(other=row, witnesses=()), "other")

    def test_equal(self):
        self.assertEqual(self.fault(one=(0, 1, 1)), "equal")
        self.assertEqual(self.fault(one=(0, 1, 1), other=[0, 1, 1]), "equal")
        self.assertEqual(self.fault(one=[0, 1, 1], witnesses=()), "equal")

    def test_count(self):
        for witnesses in ((), (4,), (4, 6, 6), [4, 6, 9], (None,)):
            self.assertEqual(self.fault(witnesses=witnesses), "count")

    def test_witness(self):
        for witness in (None, True, "4", 5, 9, 6, -1, 4.5, [4], (4,), {}):
            self.assertEqual(self.fault(witnesses=(witness, 6)), "witness", witness)
            self.assertEqual(self.fault(witnesses=(4, [witness])), "witness", witness)
        self.assertEqual(self.fault(witnesses=(4, 4)), "witness")

    def test_true_and_false_are_no_witnesses(self):
        told = Company(Ties((0, 1)), (0, 1, 2), ((), (0,), (1, 0)))
        for witnesses, fault in [((0, 1), None), ((False, 1), "witness"), ((0, True), "witness")]:
            self.assertEqual(clash_fault(rings(), Clash(told, (0, 1, 0), (0, 1, 1), witnesses)), fault)

    def test_any_guest_that_bars_is_a_witness(self):
        book = Book(Ties((0, 1, 2)), [(0, 1, 0), (0, 1, 1), (0, 1, 2)])
        told = chain((0, 1, 2), 2, [1, 2])
        for witnesses in product((1, 2), repeat=3):
            self.assertIsNone(clash_fault(book, Clash(told, (0, 0), (1, 1), witnesses)))

    def test_many_guests(self):
        ties = Ties((0, 1))
        book = Book(ties, [(0, 0, 1)]).with_barred((0, 1, 1))
        told = chain((0, 1), 0, list(range(60)))
        self.assertEqual(clash_fault(book, Clash(told, (0,) * 60, (1,) * 60, (0, 0))), "other")
        free = Book(Ties((0, 1, 2)), [(0, 1, 0), (0, 1, 1), (0, 1, 2)])
        told = chain((0, 1, 2), 2, list(range(60)))
        self.assertEqual(clash_fault(free, Clash(told, (0,) + (2,) * 59, (1,) + (2,) * 59, (0, 0, 0))), None)


class TestJoinsFault(unittest.TestCase):
    def fault(self, book=None, **changes):
        told = {"company": chain((0, 1), 0, [3, 8]), "row": (0, 1), "witnesses": (3, 8)}
        told.update(changes)
        return joins_fault(book or rings(), Joins(**told))

    def test_right(self):
        # The book has a clash, which is not asked.
        self.assertIsNone(self.fault())
        self.assertIsNone(self.fault(row=[0, 1], witnesses=[3, 8]))
        self.assertEqual(verdict_of(rings()).KIND, "clash")

    def test_the_package_s_own(self):
        for backs in ((0, 1), (1, 0), (0, 2, 1)):
            for book in all_books(backs):
                told = verdict_of(book)
                if told.KIND == "joins":
                    self.assertIsNone(joins_fault(book, told))

    def test_company(self):
        self.assertEqual(self.fault(company=chain((0, 1, 2), 0, [3, 8]), row=None), "company")
        self.assertEqual(self.fault(company=chain((0, 1), 0, [3, 8, 9]), row=None), "company")
        self.assertEqual(self.fault(book=Book(Ties((1, 0)))), "company")

    def test_row(self):
        for row in (None, 0, "01", (), (0,), (0, 1, 1), (0, 2), (0, True), (0, 0)):
            self.assertEqual(self.fault(row=row), "row")
            self.assertEqual(self.fault(row=row, witnesses=()), "row")

    def test_count(self):
        for witnesses in ((), (3,), [3, 8, 8], (None,)):
            self.assertEqual(self.fault(witnesses=witnesses), "count")

    def test_witness(self):
        for witness in (None, True, "3", 4, 8, [3], {}):
            self.assertEqual(self.fault(witnesses=(witness, 8)), "witness")
        self.assertEqual(self.fault(witnesses=(3, 3)), "witness")
        told = Joins(chain((0, 1), 0, [0, 1]), (0, 1), (False, True))
        self.assertEqual(joins_fault(rings(), told), "witness")

    def test_both_newcomers_have_the_row(self):
        # Couple (0, back of 0) is (0, 1) for a one-way tie: (0, 1, 0) and (0, 1, 1) are read off rows.
        book = Book(Ties((1, 0)), [(0, 0, 0)])
        told = Company(Ties((1, 0)), (5,), ((),))
        self.assertIsNone(joins_fault(book, Joins(told, (0,), (5, 5))))
        self.assertIsNone(joins_fault(book, Joins(told, (1,), (5, 5))))
        self.assertEqual(joins_fault(Book(Ties((1, 0)), [(0, 0, 1)]), Joins(told, (0,), (5, 5))), "witness")


def is_clash(book, one, other):
    return one != other and fine(book.ties.backs, book.barred, one, other) == ()


def left_out(row, place):
    return tuple(row[:place]) + tuple(row[place + 1:])


class TestReducing(unittest.TestCase):
    def clashes(self):
        for backs, most, step in (((0, 1), 3, 1), ((1, 0), 3, 1), ((0, 2, 1), 2, 9), ((0, 1, 2), 2, 70)):
            for book in all_books(backs)[::-step]:
                for count in range(most + 1):
                    for clash in list(all_clashes(book, count))[::1 + len(backs)]:
                        yield book, clash

    def test_is_least(self):
        for book, clash in self.clashes():
            least = not any(
                is_clash(book, left_out(clash.one, place), left_out(clash.other, place))
                for place in range(len(clash.company)))
            self.assertIs(is_least(book, clash), least)

    def test_reduce_clash_step_by_step(self):
        for book, clash in self.clashes():
            labels = [7 * at + 3 for at in range(len(clash.company))]
            told = company(book.ties.backs, clash.company.rows, labels)
            self.check(book, Clash(told, list(clash.one), clash.other, clash_witnesses(book, labels, clash)))

    def check(self, book, clash):
        labels, one, other = list(clash.company.guests), tuple(clash.one), tuple(clash.other)
        for label in clash.company.guests:
            place = labels.index(label)
            if is_clash(book, left_out(one, place), left_out(other, place)):
                one, other = left_out(one, place), left_out(other, place)
                del labels[place]
        found = reduce_clash(book, clash)
        witnesses = bars(book.ties.backs, book.barred, labels, one, other)
        self.assertEqual(found, Clash(clash.company.part_of(labels), one, other, witnesses))
        self.assertLessEqual(len(found.company), book.ties.many + 1)
        self.assertIs(is_least(book, found), True)
        self.assertIsNone(clash_fault(book, found))

    def test_guests_put_in(self):
        # Guests with like ties to both newcomers that bar nothing new are left out again.
        book = rings()
        clash = ring_clash()
        self.assertIs(is_least(book, clash), True)
        self.assertEqual(reduce_clash(book, clash), clash)
        for label in (1, 5, 7, 20):
            for row in book.lawful_rows(clash.company):
                told = clash.company.with_row(label, row)
                place = told.guests.index(label)
                for entry in (0, 1):
                    one, other = (
                        new[:place] + (entry,) + new[place:] for new in (clash.one, clash.other))
                    if book.row_fault(told, one) or book.row_fault(told, other):
                        continue
                    larger = Clash(told, one, other, bars((0, 1), book.barred, told.guests, one, other))
                    self.assertIs(is_least(book, larger), False)
                    self.check(book, larger)

    def test_first_guests_are_left_out_first(self):
        book = Book(Ties((0, 1, 2)), [(0, 1, 0), (0, 1, 1), (0, 1, 2)])
        told = chain((0, 1, 2), 2, [3, 5, 7])
        clash = Clash(told, (0, 2, 0), (1, 2, 1), (3, 7, 3))
        self.assertIsNone(clash_fault(book, clash))
        self.assertEqual(
            reduce_clash(book, clash), Clash(Company(told.ties, (7,), ((),)), (0,), (1,), (7, 7, 7)))

    def test_five_guests(self):
        ties = Ties((0, 1, 2, 3))
        clash = least_clash(Book(ties, [(tie,) * 3 for tie in range(4)]))
        book = Book(ties, [(tie,) * 3 for tie in range(4)])
        self.assertIs(is_least(book, clash), True)
        self.assertEqual(reduce_clash(book, clash), clash)

    def test_bad_clash(self):
        clash = ring_clash()
        for changed, what in [
            (Clash(clash.company, clash.one, clash.other, ()), "count"),
            (Clash(clash.company, clash.one, clash.one, clash.witnesses), "equal"),
            (Clash(clash.company, (0, 0, 0), clash.other, clash.witnesses), "one"),
            (Clash(clash.company, clash.one, None, ()), "other"),
            (Clash(clash.company, clash.one, clash.other, (6, True)), "witness"),
            (Clash(chain((1, 0), 0, [4, 6, 9]), clash.one, clash.other, clash.witnesses), "company"),
        ]:
            for call in (is_least, reduce_clash):
                with self.assertRaises(BadClash) as caught:
                    call(rings(), changed)
                self.assertEqual(caught.exception.what, what)


def clash_witnesses(book, labels, clash):
    return bars(book.ties.backs, book.barred, labels, clash.one, clash.other)


class TestEverythingBarred(unittest.TestCase):
    def test_one_guest(self):
        for backs in ((0, 1), (0, 2, 1)):
            book = Book(Ties(backs), classes(backs))
            self.assertIsNone(clash_fault(book, least_clash(book)))
            self.assertIs(is_least(book, least_clash(book)), True)


if __name__ == "__main__":
    unittest.main()
