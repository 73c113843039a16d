"""[1.9], [1.10]: likenesses and least forms."""

import unittest
from itertools import permutations, product

from joinedguests.company import Company
from joinedguests.errors import TooMany
from joinedguests.likeness import MOST_LIKE, are_alike, least_form, likenesses, turnings_of
from joinedguests.ties import Ties
from oracle import all_rows, chain, company, tie_in


def over_all_orders(backs, rows, other_rows):
    """All orders of the places of other under which all ties are kept, ascending."""
    if len(rows) != len(other_rows):
        return []
    return [
        order for order in permutations(range(len(rows)))
        if all(
            tie_in(backs, rows, j, i) == tie_in(backs, other_rows, order[j], order[i])
            for j, i in permutations(range(len(rows)), 2)
        )
    ]


def turned(backs, rows, order):
    """The rows of the company whose guests stand in another order."""
    return tuple(
        tuple(tie_in(backs, rows, order[j], order[i]) for i in range(j)) for j in range(len(rows))
    )


def some_rows(backs, count):
    """All rows of so many guests, or every so manieth one if there are very many."""
    rows = all_rows(backs, count)
    return rows[::1 + len(rows) // 40]


class TestLikenesses(unittest.TestCase):
    def test_against_all_orders(self):
        for backs in ((0, 1), (1, 0), (0, 2, 1)):
            for count in range(6):
                every = some_rows(backs, count)[::1 + 4 * (count == 5)]
                for rows, other_rows in product(every, every):
                    expected = over_all_orders(backs, rows, other_rows)
                    one, other = company(backs, rows), company(backs, other_rows)
                    self.assertEqual(list(likenesses(one, other)), expected)
                    self.assertIs(are_alike(one, other), expected != [])

    def test_five_guests_and_their_turned_companies(self):
        for backs in ((0, 1), (1, 0), (0, 1, 3, 2)):
            for rows in some_rows(backs, 5)[::4]:
                for order in list(permutations(range(5)))[::17]:
                    other_rows = turned(backs, rows, order)
                    found = list(likenesses(company(backs, rows), company(backs, other_rows)))
                    self.assertEqual(found, over_all_orders(backs, rows, other_rows))
                    self.assertNotEqual(found, [])

    def test_labels_of_the_other_company(self):
        ties = Ties((0, 1))
        one = Company(ties, (1, 2, 3), ((), (0,), (0, 1)))
        other = Company(ties, (40, 50, 60), ((), (1,), (0, 0)))
        self.assertEqual(list(likenesses(one, other)), [(60, 40, 50), (60, 50, 40)])
        self.assertEqual(list(likenesses(other, one)), [(2, 3, 1), (3, 2, 1)])

    def test_nobody(self):
        self.assertEqual(list(likenesses(Company(Ties((0, 1))), Company(Ties([0, 1])))), [()])
        self.assertIs(are_alike(Company(Ties((0, 1))), Company(Ties((0, 1)))), True)
        self.assertEqual(turnings_of(Company(Ties((0, 1)))), ((),))

    def test_unlike_backs_or_numbers(self):
        for count in range(3):
            one, other = chain((0, 1), 0, range_list(count)), chain((0, 1, 2), 0, range_list(count))
            self.assertEqual(list(likenesses(one, other)), [])
            self.assertIs(are_alike(one, other), False)
        self.assertEqual(list(likenesses(chain((0, 1), 0, [1]), chain((0, 1), 0, [1, 2]))), [])

    def test_turnings(self):
        for backs in ((0, 1), (1, 0), (0, 2, 1)):
            for count in range(5):
                for rows in some_rows(backs, count):
                    found = turnings_of(company(backs, rows))
                    self.assertIs(type(found), tuple)
                    self.assertEqual(list(found), over_all_orders(backs, rows, rows))

    def test_seven_guests(self):
        self.assertEqual(MOST_LIKE, 7)
        ring = company((0, 1), [[int(j - i in (1, 6)) for i in range(j)] for j in range(7)])
        self.assertEqual(len(turnings_of(ring)), 14)
        row = chain((1, 0), 0, range_list(7))
        self.assertEqual(turnings_of(row), (tuple(range(7)),))

    def test_too_many(self):
        small, eight, nine = (chain((0, 1), 0, range_list(count)) for count in (2, 8, 9))
        other = chain((1, 0), 0, range_list(9))
        for one, two, count in [
            (eight, small, 8), (small, eight, 8), (eight, nine, 8), (nine, eight, 9), (small, other, 9),
            (other, eight, 9),
        ]:
            for call in (are_alike, lambda a, b: list(likenesses(a, b))):
                with self.assertRaises(TooMany) as caught:
                    call(one, two)
                self.assertEqual(caught.exception.count, count)
        for call in (turnings_of, least_form):
            with self.assertRaises(TooMany) as caught:
                call(eight)
            self.assertEqual(caught.exception.count, 8)


class TestLeastForm(unittest.TestCase):
    def test_against_all_orders(self):
        for backs, most in (((0, 1), 5), ((1, 0), 5), ((0, 2, 1), 4), ((1, 0, 3, 2), 4)):
            for count in range(most + 1):
                for rows in some_rows(backs, count):
                    least = min(turned(backs, rows, order) for order in permutations(range(count)))
                    form = least_form(company(backs, rows, [3 * at + 1 for at in range(count)]))
                    self.assertEqual(form, company(backs, least))

    def test_alike_exactly_if_equal_forms(self):
        backs = (0, 2, 1)
        every = [company(backs, rows) for rows in all_rows(backs, 3)]
        for one, other in product(every, every):
            self.assertEqual(are_alike(one, other), least_form(one) == least_form(other))

    def test_first_row_first(self):
        # The row of guest 1 is made least ahead of all later rows.
        one = company((0, 1), ((), (1,), (1, 1), (1, 1, 0)))
        self.assertEqual(least_form(one).rows, ((), (0,), (1, 1), (1, 1, 1)))

    def test_seven_guests(self):
        for tie in (0, 1):
            for backs in ((0, 1), (1, 0)):
                form = least_form(chain(backs, tie, [2 * at for at in range(7)]))
                least = tie if backs == (0, 1) else 0
                self.assertEqual(form, company(backs, [(least,) * at for at in range(7)]))


def range_list(count):
    return list(range(count))


if __name__ == "__main__":
    unittest.main()
