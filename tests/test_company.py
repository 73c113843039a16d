"""[0.5], [0.9], [1.2] to [1.8]: companies."""

import unittest
from itertools import permutations

from joinedguests.company import MOST_GUESTS, Company
from joinedguests.errors import Alike, BadCompany, BadRenaming, NoGuest
from joinedguests.ties import Ties
from oracle import BACKS, all_rows, chain, tie_in

TIES = Ties((0, 2, 1))
ODD_LABELS = (True, False, None, "3", -1, 10 ** 9 + 1, 2.0, (3,), [3])


def four():
    """Guests 3, 5, 8, 10 ** 9 with six ties, three of them one-way."""
    return Company(TIES, (3, 5, 8, 10 ** 9), ((), (1,), (0, 2), (2, 0, 1)))


class TestMaking(unittest.TestCase):
    def test_nobody(self):
        for company in (Company(TIES), Company(TIES, [], []), Company(ties=TIES, guests=(), rows=())):
            self.assertEqual((company.guests, company.rows), ((), ()))
            self.assertEqual((len(company), list(company)), (0, []))
            self.assertEqual(company.ties, TIES)

    def test_attributes_are_tuples(self):
        for company in (four(), Company(TIES, [3, 5, 8, 10 ** 9], [[], [1], (0, 2), [2, 0, 1]])):
            self.assertEqual(company.guests, (3, 5, 8, 10 ** 9))
            self.assertEqual(company.rows, ((), (1,), (0, 2), (2, 0, 1)))
            self.assertIs(type(company.guests), tuple)
            self.assertEqual({type(part) for part in (company.rows,) + company.rows}, {tuple})
            self.assertEqual(company.ties, TIES)

    def test_len_in_and_iteration(self):
        company = four()
        self.assertEqual(len(company), 4)
        self.assertEqual(list(company), [3, 5, 8, 10 ** 9])
        self.assertEqual([label in company for label in (3, 4, 5, 8, 0, 10 ** 9)],
                         [True, False, True, True, False, True])

    def test_true_is_no_label_of_a_guest(self):
        company = Company(TIES, (0, 1), ((), (0,)))
        for thing in (True, False):
            self.assertFalse(thing in company)
            with self.assertRaises(NoGuest):
                company.row_of(thing)

    def test_sixty_guests(self):
        company = chain((0, 2, 1), 1, list(range(0, 120, 2)))
        self.assertEqual(MOST_GUESTS, 60)
        self.assertEqual(len(company), 60)
        self.assertEqual(company.tie_of(0, 118), 1)
        self.assertEqual(company.tie_of(118, 0), 2)
        self.assertEqual(company.row_of(0), (1,) * 59)

    def test_label_bounds(self):
        self.assertEqual(Company(TIES, (0, 10 ** 9), ((), (1,))).guests, (0, 10 ** 9))

    def test_lists_changed_later(self):
        guests, rows = [1, 2], [[], [1]]
        company = Company(TIES, guests, rows)
        guests[0] = 0
        rows[1][0] = 2
        rows.append([0, 0])
        self.assertEqual(company, Company(TIES, (1, 2), ((), (1,))))
        self.assertEqual(company.tie_of(2, 1), 1)
        self.assertEqual((guests, rows), ([0, 2], [[], [2], [0, 0]]))

    def test_arguments_stay(self):
        guests, rows = [1, 2], [[], [1]]
        company = Company(TIES, guests, rows)
        row, labels, pairs = [0, 1], [2, 1, 2], [[1, 2], [2, 1]]
        company.with_row(0, row)
        company.part_of(labels)
        company.renamed(pairs)
        self.assertEqual((guests, rows), ([1, 2], [[], [1]]))
        self.assertEqual((row, labels, pairs), ([0, 1], [2, 1, 2], [[1, 2], [2, 1]]))
        self.assertEqual((company.guests, company.rows), ((1, 2), ((), (1,))))

    def test_equality(self):
        self.assertEqual(four(), four())
        self.assertEqual(Company(Ties([0, 2, 1]), [3], [[]]), Company(TIES, (3,), ((),)))
        self.assertNotEqual(Company(TIES, (3,), ((),)), Company(TIES, (4,), ((),)))
        self.assertNotEqual(Company(TIES, (3, 4), ((), (0,))), Company(TIES, (3, 4), ((), (1,))))
        self.assertNotEqual(Company(TIES, (3,), ((),)), Company(Ties((0, 1, 2)), (3,), ((),)))
        self.assertNotEqual(Company(TIES), Company(Ties((0, 1))))
        for thing in (None, (), (3,), 0):
            self.assertFalse(Company(TIES) == thing)


class TestRefusing(unittest.TestCase):
    def refused(self, index, what, guests, rows, ties=TIES):
        with self.assertRaises(BadCompany) as caught:
            Company(ties, guests, rows)
        self.assertEqual((caught.exception.index, caught.exception.what), (index, what))

    def test_sequence(self):
        for thing in (None, 3, "ab", {}, {1}, range(2)):
            self.refused(0, "sequence", thing, ())
            self.refused(0, "sequence", (), thing)
        self.refused(0, "sequence", (True,) * 61, "ab")

    def test_many(self):
        self.refused(60, "many", tuple(range(61)), ())
        self.refused(60, "many", (None,) * 70, ((1,),))

    def test_label(self):
        for thing in ODD_LABELS:
            self.refused(0, "label", (thing,), ((),))
            self.refused(1, "label", (1, thing), ((), (0,)))

    def test_order(self):
        self.refused(1, "order", (2, 1), ((), (0,)))
        self.refused(1, "order", (2, 2), ((), (0,)))
        self.refused(2, "order", (2, 4, 3), ((), (0,), (0, 0)))

    def test_row(self):
        self.refused(0, "row", (1,), ())
        self.refused(1, "row", (1, 2), ((),))
        for thing in (None, 0, "0", {0: 0}, True):
            self.refused(1, "row", (1, 2), ((), thing))

    def test_length(self):
        self.refused(0, "length", (1,), ((0,),))
        self.refused(1, "length", (1, 2), ((), ()))
        self.refused(2, "length", (1, 2, 3), ((), (0,), (0, 0, 0)))

    def test_tie(self):
        for thing in (True, False, None, "0", -1, 3, (0,)):
            self.refused(2, "tie", (1, 2, 3), ((), (0,), (1, thing)))

    def test_rows(self):
        self.refused(0, "rows", (), ((),))
        self.refused(2, "rows", (1, 2), ((), (0,), (0, 0)))

    def test_first_of_several(self):
        self.refused(1, "label", (5, None), ((), None, None))
        self.refused(1, "order", (5, 5), ((),))
        self.refused(1, "order", (5, 4), ((), (9, 9)))
        self.refused(1, "length", (5, 6), ((), (9, 9)))
        self.refused(1, "tie", (5, 6, None), ((), (9,)))
        self.refused(0, "length", (5, None), ((0,), ()))
        self.refused(1, "tie", (5, 6), ((), (9,), (), ()))


class TestAsking(unittest.TestCase):
    def test_tie_of_both_ways(self):
        company = four()
        for x, y, tie, back in [
            (5, 3, 1, 2), (8, 3, 0, 0), (8, 5, 2, 1), (10 ** 9, 3, 2, 1), (10 ** 9, 5, 0, 0), (10 ** 9, 8, 1, 2),
        ]:
            self.assertEqual((company.tie_of(x, y), company.tie_of(y, x)), (tie, back))

    def test_tie_of_refused(self):
        company = four()
        for label in ODD_LABELS + (4,):
            for x, y in ((label, 3), (3, label), (label, None)):
                with self.assertRaises(NoGuest) as caught:
                    company.tie_of(x, y)
                self.assertIs(caught.exception.label, label)
        with self.assertRaises(Alike) as caught:
            company.tie_of(5, 5)
        self.assertEqual(caught.exception.label, 5)
        with self.assertRaises(NoGuest):
            company.tie_of(4, 4)

    def test_row_of(self):
        company = four()
        self.assertEqual(company.row_of(3), (2, 0, 1))
        self.assertEqual(company.row_of(5), (1, 1, 0))
        self.assertEqual(company.row_of(8), (0, 2, 2))
        self.assertEqual(company.row_of(10 ** 9), (2, 0, 1))
        self.assertEqual(Company(TIES, (7,), ((),)).row_of(7), ())
        for label in ODD_LABELS + (4,):
            with self.assertRaises(NoGuest) as caught:
                company.row_of(label)
            self.assertIs(caught.exception.label, label)

    def test_part_of(self):
        company = four()
        self.assertEqual(company.part_of([8, 3, 8]), Company(TIES, (3, 8), ((), (0,))))
        self.assertEqual(company.part_of((10 ** 9, 8, 5)), Company(TIES, (5, 8, 10 ** 9), ((), (2,), (0, 1))))
        self.assertEqual(company.part_of(()), Company(TIES))
        whole = company.part_of(company.guests)
        self.assertEqual(whole, company)
        self.assertIsNot(whole, company)

    def test_part_of_refused(self):
        for labels, label in [((3, 4, 6), 4), ([4, 3], 4), ((5, True), True), ((5, None, 4), None)]:
            with self.assertRaises(NoGuest) as caught:
                four().part_of(labels)
            self.assertIs(caught.exception.label, label)

    def test_without(self):
        self.assertEqual(four().without(3), Company(TIES, (5, 8, 10 ** 9), ((), (2,), (0, 1))))
        self.assertEqual(four().without(8), Company(TIES, (3, 5, 10 ** 9), ((), (1,), (2, 0))))
        self.assertEqual(four().without(10 ** 9), Company(TIES, (3, 5, 8), ((), (1,), (0, 2))))
        self.assertEqual(Company(TIES, (3,), ((),)).without(3), Company(TIES))
        for label in ODD_LABELS + (4,):
            with self.assertRaises(NoGuest) as caught:
                four().without(label)
            self.assertIs(caught.exception.label, label)


class TestWithRow(unittest.TestCase):
    def test_front_middle_and_end(self):
        company = Company(TIES, (3, 5, 8), ((), (1,), (0, 2)))
        row = (1, 0, 2)
        self.assertEqual(
            company.with_row(1, row), Company(TIES, (1, 3, 5, 8), ((), (2,), (0, 1), (1, 0, 2))))
        self.assertEqual(
            company.with_row(4, list(row)), Company(TIES, (3, 4, 5, 8), ((), (1,), (1, 0), (0, 1, 2))))
        self.assertEqual(
            company.with_row(7, row), Company(TIES, (3, 5, 7, 8), ((), (1,), (1, 0), (0, 2, 1))))
        self.assertEqual(
            company.with_row(9, row), Company(TIES, (3, 5, 8, 9), ((), (1,), (0, 2), (1, 0, 2))))
        self.assertEqual(Company(TIES).with_row(6, ()), Company(TIES, (6,), ((),)))

    def test_newcomer_has_its_row_wherever_it_stands(self):
        company = Company(TIES, (3, 5, 8), ((), (1,), (0, 2)))
        for label in (0, 4, 6, 10 ** 9):
            grown = company.with_row(label, (2, 1, 0))
            self.assertEqual(grown.row_of(label), (2, 1, 0))
            self.assertEqual(grown.without(label), company)
            self.assertEqual(grown.tie_of(3, label), 1)

    def refused(self, company, label, row, index, what):
        with self.assertRaises(BadCompany) as caught:
            company.with_row(label, row)
        self.assertEqual((caught.exception.index, caught.exception.what), (index, what))

    def test_many(self):
        full = chain((0, 1), 1, list(range(60)))
        self.refused(full, None, None, 60, "many")
        self.refused(full, 60, (0,) * 60, 60, "many")
        self.assertEqual(len(full.without(7).with_row(60, (0,) * 59)), 60)

    def test_label(self):
        for label in ODD_LABELS:
            self.refused(four(), label, (), 0, "label")
        self.refused(four(), 3, (0, 0, 0, 0), 0, "label")
        self.refused(four(), 8, None, 2, "label")

    def test_row_length_and_tie(self):
        for label, index in ((0, 0), (4, 1), (9, 3)):
            for row in (None, 0, "0000", {}):
                self.refused(four(), label, row, index, "row")
            for row in ((), (0, 0, 0), [9] * 5):
                self.refused(four(), label, row, index, "length")
            for tie in (True, None, "0", 3, -1):
                self.refused(four(), label, (0, 0, 0, tie), index, "tie")


class TestRenamed(unittest.TestCase):
    def test_new_labels_that_are_old_ones(self):
        company = Company(TIES, (1, 2, 3), ((), (1,), (0, 2)))
        for names in permutations((1, 2, 3)):
            pairs = list(zip((1, 2, 3), names))
            for order in (pairs, pairs[::-1], tuple(map(list, pairs))):
                renamed = company.renamed(order)
                self.assertEqual(renamed.guests, (1, 2, 3))
                for (x, new_x), (y, new_y) in permutations(pairs, 2):
                    self.assertEqual(renamed.tie_of(new_x, new_y), company.tie_of(x, y))

    def test_order_of_new_labels(self):
        company = Company(TIES, (1, 2, 3), ((), (1,), (0, 2)))
        self.assertEqual(
            company.renamed(((1, 9), (2, 0), (3, 4))), Company(TIES, (0, 4, 9), ((), (2,), (2, 0))))
        self.assertEqual(Company(TIES).renamed([]), Company(TIES))

    def refused(self, what, pairs):
        with self.assertRaises(BadRenaming) as caught:
            Company(TIES, (1, 2), ((), (1,))).renamed(pairs)
        self.assertEqual(caught.exception.what, what, pairs)

    def test_pair(self):
        for pairs in (None, 3, "ab", {1: 2, 2: 1}):
            self.refused("pair", pairs)
        for pair in (None, 1, "12", (1,), (1, 2, 3), ()):
            self.refused("pair", ((1, 1), pair))

    def test_guest(self):
        for old in (3, True, None, "1", -1, [1]):
            self.refused("guest", ((old, 5), (2, 6)))
        self.refused("guest", ((1, 5), (1, 6)))
        self.refused("guest", ((1, 5),))
        self.refused("guest", ())

    def test_label(self):
        for new in (True, None, "1", -1, 10 ** 9 + 1, [1]):
            self.refused("label", ((1, new), (2, 6)))
        self.refused("label", ((1, 5), (2, 5)))

    def test_first_of_several(self):
        self.refused("guest", ((3, None), None))
        self.refused("label", ((1, None), None))
        self.refused("pair", ((1, 5), None, (3, 3)))
        self.refused("guest", ((1, 5), (2, 6), (1, 7)))


class TestAgainstRows(unittest.TestCase):
    def test_every_company_of_three(self):
        for backs in BACKS[:6]:
            ties = Ties(backs)
            for rows in all_rows(backs, 3):
                company = Company(ties, (4, 6, 9), rows)
                for j, i in permutations(range(3), 2):
                    self.assertEqual(
                        company.tie_of((4, 6, 9)[j], (4, 6, 9)[i]), tie_in(backs, rows, j, i))


if __name__ == "__main__":
    unittest.main()
