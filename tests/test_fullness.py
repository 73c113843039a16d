"""[8.1], [8.2]: full companies."""

import random
import unittest
from itertools import combinations

from asking import endless, random_question, together
from joinedguests.answers import answer_of
from joinedguests.book import Book
from joinedguests.clashjudge import clash_fault
from joinedguests.company import Company
from joinedguests.errors import BadFullness, NoHall, NotLet, OtherTies, TooWide
from joinedguests.fullness import Lack, first_lack, is_full, thick_lack
from joinedguests.meaning import meaning_of
from joinedguests.ties import Ties
from joinedguests.verdict import joins
from oracle import all_books, chain, company, fine, lawful

FREE = Book(Ties((0, 1)))
RINGS = Book(Ties((0, 1)), [(0, 0, 0), (1, 1, 1)])
# Each guest has at most one other with tie 0.
COUPLES = Book(Ties((0, 1)), [(0, 0, 1), (0, 0, 0)])
# No tie is a row tie, and three ties are fine over nobody.
WIDE = Book(Ties((1, 0, 2)), [(0, 0, 0), (0, 0, 2), (0, 2, 2), (2, 2, 2)])


def ring(steps, backs=(0, 1)):
    """The company of guests in a ring, with steps[k - 1] to the guest k places on."""
    count = len(steps) + 1
    return company(backs, [[steps[(i - j) % count - 1] for i in range(j)] for j in range(count)])


def times_met(told, labels, row):
    return sum(
        tuple(told.tie_of(label, other) for other in labels) == tuple(row) for label in told if label not in labels)


def rows_of(book, told, r):
    """All lots of at most r guests with their lawful rows, in order, and how many guests meet each."""
    backs, barred = book.ties.backs, set(book.barred)
    for size in range(r + 1):
        for labels in combinations(told.guests, size):
            for row in lawful(backs, barred, told.part_of(labels).rows):
                yield labels, row, times_met(told, labels, row)


def plain_lack(book, told, r):
    return next((Lack(*found) for found in rows_of(book, told, r) if found[2] == 0), None)


def plain_thick_lack(book, told, r, m):
    """The first row that is met thinly, or "wide"."""
    backs, barred = book.ties.backs, set(book.barred)
    for labels, row, times in rows_of(book, told, r):
        if times < m:
            if endless(backs, barred, row) is not None:
                return Lack(labels, row, times)
            if len(fine(backs, barred, row, row)) > 2:
                return "wide"
            if together(backs, barred, row, 6) > times:
                return Lack(labels, row, times)
    return None


def random_company(chance, book, count):
    rows = ()
    for _ in range(count):
        news = lawful(book.ties.backs, set(book.barred), rows)
        if news:
            rows += (chance.choice(news),)
    return company(book.ties.backs, rows, sorted(chance.sample(range(40), len(rows))))


def books():
    return all_books((0, 1)) + all_books((1, 0)) + all_books((0, 2, 1))[::7] + [WIDE]


class TestFirstLack(unittest.TestCase):
    def check(self, book, told, r):
        expected = plain_lack(book, told, r)
        self.assertEqual(first_lack(book, told, r), expected)
        self.assertIs(is_full(book, told, r), expected is None)
        return expected

    def test_against_a_search(self):
        chance = random.Random(1)
        seen = {}
        for book in books():
            for _ in range(12):
                told = random_company(chance, book, chance.randint(0, 7))
                for r in range(3):
                    lack = self.check(book, told, r)
                    key = (r, None if lack is None else len(lack.guests))
                    seen[key] = seen.get(key, 0) + 1
        self.assertTrue({(0, None), (0, 0), (1, None), (1, 1), (2, None), (2, 1), (2, 2)} <= set(seen), seen)

    def test_nobody(self):
        for book in (FREE, RINGS, WIDE):
            for r in range(3):
                self.assertEqual(first_lack(book, Company(book.ties), r), Lack((), (), 0))
            self.assertIsNone(first_lack(book, Company(book.ties, (7,), ((),)), 0))

    def test_by_hand(self):
        # The wheel with the steps 0, 1, 0 has each tie from each guest.
        wheel = ring((0, 1, 0))
        self.assertIsNone(first_lack(FREE, wheel, 1))
        self.assertEqual(first_lack(FREE, wheel, 2), Lack((0, 1), (0, 0), 0))
        self.assertEqual(first_lack(FREE, chain((0, 1), 0, [3, 5]), 2), Lack((3,), (1,), 0))
        self.assertEqual(first_lack(FREE, chain((0, 1), 1, [3, 5]), 1), Lack((3,), (0,), 0))
        squares = ring([0 if k in (1, 3, 4, 9, 10, 12) else 1 for k in range(1, 13)])
        self.assertIsNone(first_lack(FREE, squares, 2))
        self.assertIs(is_full(FREE, squares, 2), True)
        # It takes nine guests to be 2-full.
        for labels in (range(8), range(0, 13, 2), (0, 1, 3, 4, 9, 10, 11, 12)):
            self.assertIs(is_full(FREE, squares.part_of(list(labels)), 2), False)

    def test_a_book_with_a_clash(self):
        # The ring of five is all that there is.
        five = ring((0, 1, 1, 0))
        self.assertIsNone(first_lack(RINGS, five, 1))
        # The lawful row (1, 1) over 0 and 1 with tie 0 is met, (0, 0) over them is not lawful.
        self.assertEqual(first_lack(RINGS, five, 2), plain_lack(RINGS, five, 2))

    def test_sixty_guests(self):
        told = chain((0, 1), 1, list(range(60)))
        everything_one = Book(Ties((0, 1)), [(0, 0, 0), (0, 0, 1), (0, 1, 1)])
        self.assertEqual(first_lack(everything_one, told, 2), plain_lack(everything_one, told, 2))
        couples = company((0, 1), [[0 if i == j - 1 and j % 2 else 1 for i in range(j)] for j in range(60)])
        self.assertIsNone(first_lack(COUPLES, couples, 2))

    def test_errors(self):
        barred = chain((0, 1), 0, [1, 2, 3])
        for call in (first_lack, is_full):
            for told in (chain((1, 0), 0, [1, 2, 3]), chain((0, 1, 2), 0, [1, 2, 3])):
                with self.assertRaises(OtherTies):
                    call(RINGS, told, None)
            with self.assertRaises(NotLet) as caught:
                call(RINGS, barred, None)
            self.assertEqual(caught.exception.what, "company")
            for r in (3, -1, True, False, None, "1", 1.0, (1,)):
                with self.assertRaises(BadFullness) as caught:
                    call(RINGS, chain((0, 1), 0, [1, 2]), r)
                self.assertEqual(caught.exception.what, "r")

    def test_lack(self):
        lack = Lack((1, 2), (0, 1), 3)
        self.assertEqual((lack.guests, lack.row, lack.times), ((1, 2), (0, 1), 3))
        self.assertEqual(list(vars(lack)), ["guests", "row", "times"])
        self.assertEqual(lack, Lack(guests=(1, 2), row=(0, 1), times=3))
        for unlike in (Lack((1, 3), (0, 1), 3), Lack((1, 2), (1, 1), 3), Lack((1, 2), (0, 1), 2), None, ((1, 2), (0, 1), 3)):
            self.assertFalse(lack == unlike)
        self.assertFalse(Lack((), (), 1) == Lack((), (), True))


class TestThickLack(unittest.TestCase):
    def check(self, book, told, r, m):
        expected = plain_thick_lack(book, told, r, m)
        if expected == "wide":
            with self.assertRaises(TooWide):
                thick_lack(book, told, r, m)
            return "wide"
        self.assertEqual(thick_lack(book, told, r, m), expected)
        if m == 1:
            self.assertEqual(expected, first_lack(book, told, r))
        return expected

    def test_against_a_search(self):
        chance = random.Random(2)
        seen = {}
        for book in books():
            if not joins(book):
                continue
            for _ in range(20):
                told = random_company(chance, book, chance.randint(0, 8))
                for r in range(3):
                    found = self.check(book, told, r, chance.randint(1, 5))
                    key = found if found in (None, "wide") else (len(found.guests), found.times)
                    seen[key] = seen.get(key, 0) + 1
                self.check(book, told, 2, 1)
        self.assertTrue({None, "wide", (0, 0), (0, 1), (0, 4), (1, 0), (1, 1), (1, 2), (2, 0)} <= set(seen), seen)

    def test_by_hand(self):
        # Halls of couples: one partner for each guest, endlessly many others.
        couples = company((0, 1), [[0 if i == j - 1 and j % 2 else 1 for i in range(j)] for j in range(8)])
        for m in range(1, 6):
            self.assertIsNone(thick_lack(COUPLES, couples, 1, m))
        # Over 0 and 1 with tie 0 nobody else has a tie 0, and six have (1, 1); over 0 and 2 four have it.
        self.assertIsNone(thick_lack(COUPLES, couples, 2, 4))
        self.assertEqual(thick_lack(COUPLES, couples, 2, 5), Lack((0, 2), (1, 1), 4))
        self.assertEqual(thick_lack(COUPLES, couples.part_of((0, 1, 2, 3)), 0, 5), Lack((), (), 4))

    def test_whole_halls_lack_nothing(self):
        halls = [
            (Book(Ties((0, 1)), [(0, 0, 0), (1, 1, 1), (0, 0, 1)]), ring((1, 0, 1))),
            (Book(Ties((1, 0)), [(0, 0, 0)]), ring((0, 1), (1, 0))),
        ]
        for book, hall in halls:
            for r in range(3):
                for m in range(1, 6):
                    self.assertIsNone(self.check(book, hall, r, m))

    def test_too_wide_in_order(self):
        nobody = Company(WIDE.ties)
        with self.assertRaises(TooWide):
            thick_lack(WIDE, nobody, 0, 1)
        # A row that m guests or more meet is not asked.
        one = Company(WIDE.ties, (3,), ((),))
        with self.assertRaises(TooWide):
            thick_lack(WIDE, one, 0, 2)
        self.assertIsNone(thick_lack(WIDE, one, 0, 1))
        self.assertEqual(self.check(WIDE, one, 1, 1), Lack((3,), (0,), 0))

    def test_errors(self):
        barred = chain((0, 1), 0, [1, 2, 3])
        with self.assertRaises(OtherTies):
            thick_lack(RINGS, chain((1, 0), 0, [1, 2, 3]), None, None)
        with self.assertRaises(NoHall) as caught:
            thick_lack(RINGS, barred, None, None)
        self.assertIsNone(clash_fault(RINGS, caught.exception.clash))
        with self.assertRaises(NotLet) as caught:
            thick_lack(COUPLES, barred, None, None)
        self.assertEqual(caught.exception.what, "company")
        told = chain((0, 1), 1, [1, 2])
        for r in (3, -1, True, False, None, "1", 1.0):
            with self.assertRaises(BadFullness) as caught:
                thick_lack(COUPLES, told, r, None)
            self.assertEqual(caught.exception.what, "r")
        for m in (0, 6, -1, True, False, None, "1", 1.0):
            with self.assertRaises(BadFullness) as caught:
                thick_lack(COUPLES, told, 1, m)
            self.assertEqual(caught.exception.what, "m")
            with self.assertRaises(BadFullness) as caught:
                thick_lack(WIDE, Company(WIDE.ties), 0, m)
            self.assertEqual(caught.exception.what, "m")


class TestAnswers(unittest.TestCase):
    def test_full_companies_answer_as_halls_do(self):
        couples = company((0, 1), [[0 if i == j - 1 and j % 2 else 1 for i in range(j)] for j in range(12)])
        chance = random.Random(3)
        for book, told, r, m in [
            (FREE, ring((0, 1, 0)), 1, 1), (COUPLES, couples, 2, 5),
            (Book(Ties((1, 0)), [(0, 0, 0)]), ring((0, 1), (1, 0)), 2, 5),
        ]:
            self.assertIsNone(thick_lack(book, told, r, m))
            for _ in range(150):
                names = "abc"[:chance.randint(1, r + 1)]
                question = random_question(chance, names, 2, chance.randint(1, 9), times=m, width=r + 1)
                naming = [(name, chance.choice(told.guests)) for name in names]
                self.assertIs(
                    meaning_of(question, told, naming), answer_of(book, question, told, naming), str(question))


if __name__ == "__main__":
    unittest.main()
