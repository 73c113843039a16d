"""[8.3] to [8.5]: wheels."""

import random
import unittest
from itertools import combinations, product
from math import gcd

from joinedguests.book import Book
from joinedguests.company import Company
from joinedguests.errors import BadFullness, BadSpread, BadWheel, TooMany
from joinedguests.fullness import Lack, first_lack, is_full
from joinedguests.likeness import are_alike
from joinedguests.ties import Ties
from joinedguests.wheels import Wheel, all_wheels, climb_tie, least_wheel
from oracle import BACKS, all_books, classes, first_barred, lawful, let_rows, tie_in

FREE = Book(Ties((0, 1)))


def turned(backs, steps):
    """The steps of the way back round."""
    return tuple(backs[tie] for tie in steps[::-1])


def rows_of(steps):
    """The rows of a wheel: the tie from j to i is that of the way from j on to i."""
    count = len(steps) + 1
    return tuple(tuple(steps[(i - j) % count - 1] for i in range(j)) for j in range(count))


def wheel_rows(backs, barred, count):
    """The steps of all let wheels of so many guests, ascending: all companies are gone through."""
    found = []
    for steps in product(range(len(backs)), repeat=count - 1):
        if turned(backs, steps) == steps and first_barred(backs, barred, rows_of(steps)) is None:
            found.append(steps)
    return found


def plain_full(backs, barred, rows, r):
    """Whether nobody's row is lacked over at most r guests."""
    many = range(len(rows))
    for count in range(r + 1):
        for lot in combinations(many, count):
            part = tuple(tuple(tie_in(backs, rows, y, x) for x in lot if x < y) for y in lot)
            met = {tuple(tie_in(backs, rows, z, x) for x in lot) for z in many if z not in lot}
            if not met.issuperset(lawful(backs, barred, part)):
                return False
    return True


def some_books():
    books = all_books((0, 1)) + all_books((1, 0)) + all_books((0, 2, 1))[::5] + all_books((0, 1, 2))[::31]
    return books + [Book(Ties(backs)) for backs in BACKS]


class TestWheel(unittest.TestCase):
    def bad(self, ties, steps, index, what):
        with self.assertRaises(BadWheel) as caught:
            Wheel(ties, steps)
        self.assertEqual((caught.exception.index, caught.exception.what), (index, what), steps)

    def test_each_guest_has_each_step(self):
        chance = random.Random(1)
        for backs in BACKS:
            for count in range(2, 14):
                half = [chance.randrange(len(backs)) for _ in range((count - 1) // 2)]
                own = [tie for tie in range(len(backs)) if backs[tie] == tie]
                if count % 2 == 0 and not own:
                    continue
                middle = [chance.choice(own)] if count % 2 == 0 else []
                steps = (*half, *middle, *turned(backs, half))
                wheel = Wheel(Ties(backs), list(steps))
                self.assertEqual((wheel.ties, wheel.steps, len(wheel)), (Ties(backs), steps, count))
                self.assertEqual(wheel.company, Company(Ties(backs), list(range(count)), rows_of(steps)))
                for i in range(count):
                    for k in range(1, count):
                        on = i + k if i + k < count else i + k - count
                        self.assertEqual(wheel.company.tie_of(i, on), steps[k - 1])

    def test_by_hand(self):
        wheel = Wheel(Ties((0, 1)), (0, 1, 1, 0))
        self.assertEqual(wheel.company.rows, ((), (0,), (1, 0), (1, 1, 0), (0, 1, 1, 0)))
        ways = Wheel(Ties((1, 0)), [0, 1])
        self.assertEqual(ways.company.rows, ((), (1,), (0, 1)))
        self.assertEqual(Wheel(Ties((0, 1)), (1,)).company.rows, ((), (1,)))

    def test_words(self):
        ties, ways = Ties((0, 1)), Ties((1, 0))
        for thing in (None, (0, 1), "ties", Book):
            self.bad(thing, None, 0, "ties")
        for steps in (None, (), [], "01", range(3), (0,) * 13, [None] * 13, {0: 0}, 1):
            self.bad(ties, steps, 0, "steps")
        for steps, index in [
            ((2,), 0), ((0, True, 0), 1), ((0, None), 1), ((0, -1, 5), 1), ((0, 1, 1.0), 2), ((0, 1, "1"), 2), ((False, 0), 0),
            ((0, 1, 2), 2), ((0, 1, []), 2),
        ]:
            self.bad(ties, steps, index, "tie")
        for told, steps, index in [
            (ties, (0, 1), 0), (ties, (0, 1, 0, 0), 1), (ties, (1, 0, 0, 0, 1, 0), 0), (ways, (0,), 0), (ways, (1, 0, 1), 0),
            (ways, (0, 0), 0), (ways, (0, 0, 1), 1), (ways, (0, 1, 1, 1), 1), (Ties((0, 2, 1)), (0, 1, 0), 1),
            (Ties((0, 2, 1)), (1, 1, 2), 1), (Ties((0, 2, 1)), (1, 0, 0, 1), 0), (Ties((0, 2, 1)), (1, 0, 1, 2), 1),
        ]:
            self.bad(told, steps, index, "back")

    def test_the_first_where_several_are_due(self):
        # All ties are looked at ahead of all backs.
        self.bad(Ties((0, 1)), (0, 1, 7), 2, "tie")
        self.bad(Ties((0, 1)), (0, 7, 9, 1), 1, "tie")
        self.bad(Ties((1, 0)), (1, 1, 1, 1), 0, "back")
        self.bad(None, (9,), 0, "ties")
        self.bad(Ties((0, 1)), (9,) * 13, 0, "steps")

    def test_all_steps(self):
        for backs in BACKS:
            for count in range(2, 5):
                for steps in product(range(len(backs)), repeat=count - 1):
                    back = turned(backs, steps)
                    if steps == back:
                        self.assertEqual(Wheel(Ties(backs), steps).company.rows, rows_of(steps))
                    else:
                        first = next(k for k in range(count - 1) if steps[k] != back[k])
                        self.bad(Ties(backs), steps, first, "back")

    def test_equality(self):
        one = Wheel(Ties((0, 1)), (0, 1, 0))
        self.assertEqual(one, Wheel(Ties([0, 1]), [0, 1, 0]))
        for thing in (
            Wheel(Ties((0, 1)), (0, 0, 0)), Wheel(Ties((0, 1)), (0, 0)), Wheel(Ties((0, 1, 2)), (0, 1, 0)), (0, 1, 0), None,
            one.company,
        ):
            self.assertNotEqual(one, thing)

    def test_lists_changed_later(self):
        steps = [0, 1, 0]
        wheel = Wheel(Ties((0, 1)), steps)
        steps[0] = 1
        self.assertEqual(wheel.steps, (0, 1, 0))


class TestSpread(unittest.TestCase):
    def test_all_numbers(self):
        chance = random.Random(2)
        for backs in BACKS:
            for count in range(2, 14):
                wheels = list(all_wheels(Book(Ties(backs)), count))
                for wheel in chance.sample(wheels, min(2, len(wheels))):
                    for k in range(1, count):
                        if gcd(k, count) > 1:
                            with self.assertRaises(BadSpread) as caught:
                                wheel.spread(k)
                            self.assertEqual(caught.exception.k, k)
                            continue
                        told = wheel.spread(k)
                        self.assertEqual(told.ties, wheel.ties)
                        for i in range(count):
                            for j in range(count):
                                if i != j:
                                    self.assertEqual(
                                        tie_in(backs, told.company.rows, i * k % count, j * k % count),
                                        tie_in(backs, wheel.company.rows, i, j))
                        if count < 7:
                            self.assertTrue(are_alike(wheel.company, told.company))

    def test_by_hand(self):
        wheel = Wheel(Ties((0, 1)), (0, 1, 1, 0))
        self.assertEqual(wheel.spread(2).steps, (1, 0, 0, 1))
        self.assertEqual(wheel.spread(1), wheel)
        self.assertEqual(wheel.spread(4), wheel)
        self.assertEqual(Wheel(Ties((1, 0)), (0, 1)).spread(2).steps, (1, 0))
        self.assertEqual(wheel.steps, (0, 1, 1, 0))

    def test_refused(self):
        wheel = Wheel(Ties((0, 1)), (0, 1, 1, 1, 0))
        for k in (0, 6, 7, -1, 2, 3, 4, True, None, "1", 1.0, [5]):
            with self.assertRaises(BadSpread) as caught:
                wheel.spread(k)
            self.assertIs(caught.exception.k, k)


class TestAllWheels(unittest.TestCase):
    def test_against_companies(self):
        found = 0
        for book in some_books():
            backs = book.ties.backs
            for count in range(2, {2: 8, 3: 6, 4: 5}[len(backs)]):
                expected = wheel_rows(backs, set(book.barred), count)
                wheels = list(all_wheels(book, count))
                self.assertEqual([wheel.steps for wheel in wheels], expected)
                for wheel in wheels:
                    self.assertIs(type(wheel), Wheel)
                    self.assertEqual((wheel.ties, wheel.company.rows), (book.ties, rows_of(wheel.steps)))
                found += len(expected) > 1
        self.assertTrue(found > 80, found)

    def test_against_all_companies(self):
        """The wheels of four guests are those of all let companies that show each step everywhere."""
        for book in all_books((0, 1)) + all_books((0, 2, 1))[::9]:
            backs = book.ties.backs
            told = []
            for rows in let_rows(backs, book.barred, 4):
                ways = [{tie_in(backs, rows, i, (i + k) % 4) for i in range(4)} for k in (1, 2, 3)]
                if all(len(way) == 1 for way in ways):
                    told.append(tuple(way.pop() for way in ways))
            self.assertEqual([wheel.steps for wheel in all_wheels(book, 4)], sorted(told))

    def test_the_words_of_steps(self):
        """A book lets a wheel exactly if each three of steps j, k and j + k is let."""
        for book in (FREE, Book(Ties((0, 1)), [(0, 0, 0)]), Book(Ties((1, 0)), [(0, 0, 1)]), Book(Ties((0, 2, 1)), [(1, 1, 1)])):
            for n in (7, 9):
                expected = []
                backs = book.ties.backs
                for half in product(range(len(backs)), repeat=n // 2):
                    steps = half + turned(backs, half)
                    if not any(
                            book.bars(steps[j - 1], steps[k - 1], steps[(j + k) % n - 1])
                            for j in range(1, n) for k in range(1, n) if j + k != n):
                        expected.append(steps)
                self.assertEqual([wheel.steps for wheel in all_wheels(book, n)], expected)

    def test_sizes(self):
        self.assertEqual(len(list(all_wheels(FREE, 13))), 64)
        self.assertEqual(len(list(all_wheels(FREE, 12))), 64)
        self.assertEqual(len(list(all_wheels(Book(Ties((1, 0))), 13))), 64)
        self.assertEqual(list(all_wheels(Book(Ties((1, 0))), 12)), [])
        self.assertEqual(len(list(all_wheels(Book(Ties((0, 2, 1))), 8))), 27)
        self.assertEqual(len(list(all_wheels(Book(Ties((0, 1, 2, 3))), 6))), 64)

    def test_refused(self):
        for n in (0, 1, 14, -3, True, None, "3", 3.0, [5]):
            with self.assertRaises(TooMany) as caught:
                list(all_wheels(FREE, n))
            self.assertIs(caught.exception.count, n)


class TestLeastWheel(unittest.TestCase):
    def test_against_a_search(self):
        found = {}
        for book in some_books():
            backs, barred = book.ties.backs, set(book.barred)
            most = {2: 7, 3: 5, 4: 4}[len(backs)]
            for r in range(3):
                expected = next((
                    steps for count in range(2, most + 1) for steps in wheel_rows(backs, barred, count)
                    if plain_full(backs, barred, rows_of(steps), r)), None)
                told = least_wheel(book, r, most)
                self.assertEqual(None if told is None else told.steps, expected)
                found[r, told is None] = found.get((r, told is None), 0) + 1
        self.assertTrue({(0, False), (1, False), (1, True), (2, False), (2, True)} <= set(found), found)

    def test_the_example(self):
        self.assertEqual(least_wheel(FREE, 1, 13), Wheel(Ties((0, 1)), (0, 1, 0)))
        self.assertEqual(least_wheel(FREE, 1, 4).steps, (0, 1, 0))
        self.assertIsNone(least_wheel(FREE, 1, 3))
        nobody = Company(Ties((0, 1)))
        for r in range(3):
            self.assertEqual(first_lack(FREE, nobody, r), Lack((), (), 0))

    def test_two_full(self):
        wheel = least_wheel(FREE, 2, 13)
        self.assertTrue(is_full(FREE, wheel.company, 2))
        self.assertTrue(plain_full((0, 1), set(), rows_of(wheel.steps), 2))
        self.assertIsNone(least_wheel(FREE, 2, len(wheel) - 1))
        self.assertEqual(
            [told for told in wheel_rows((0, 1), set(), len(wheel)) if plain_full((0, 1), set(), rows_of(told), 2)][0],
            wheel.steps)
        ways = least_wheel(Book(Ties((1, 0))), 2, 13)
        self.assertTrue(ways is None or plain_full((1, 0), set(), rows_of(ways.steps), 2))

    def test_books_with_a_clash(self):
        ring = Book(Ties((0, 1)), [(0, 0, 0), (1, 1, 1)])
        self.assertEqual(least_wheel(ring, 1, 13).steps, (0, 1, 0))
        self.assertEqual(least_wheel(ring, 0, 2).steps, (0,))

    def test_refused_in_order(self):
        for r in (3, -1, True, False, None, "1", 1.0):
            for most in (2, 99):
                with self.assertRaises(BadFullness) as caught:
                    least_wheel(FREE, r, most)
                self.assertEqual(caught.exception.what, "r")
        for most in (1, 14, 0, True, None, "5", 5.0):
            with self.assertRaises(TooMany) as caught:
                least_wheel(FREE, 0, most)
            self.assertIs(caught.exception.count, most)


class TestClimbTie(unittest.TestCase):
    def test_against_a_search(self):
        counts = {}
        for backs in BACKS:
            books = all_books(backs) if len(backs) < 4 else []
            chance = random.Random(3)
            for _ in range(60 if len(backs) == 4 else 0):
                rate = chance.random()
                books.append(Book(Ties(backs), [three for three in classes(backs) if chance.random() < rate]))
            for book in books:
                expected = [
                    t for t in range(len(backs)) if backs[t] != t
                    and [r for r in range(len(backs)) if (t, t, r) not in book.barred] == [t]]
                self.assertEqual(climb_tie(book), expected[0] if expected else None)
                counts[climb_tie(book)] = counts.get(climb_tie(book), 0) + 1
        self.assertTrue({None, 0, 1, 2} <= set(counts), counts)

    def test_no_company_is_full(self):
        for book in all_books((1, 0)) + all_books((0, 2, 1)):
            if climb_tie(book) is not None:
                for count in range(1, 4):
                    for rows in let_rows(book.ties.backs, book.barred, count):
                        self.assertFalse(plain_full(book.ties.backs, set(book.barred), rows, 1))
                for r in (1, 2):
                    self.assertIsNone(least_wheel(book, r, 5))

    def test_by_hand(self):
        self.assertEqual(climb_tie(Book(Ties((1, 0)), [(0, 0, 1)])), 0)
        self.assertIsNone(climb_tie(Book(Ties((1, 0)))))
        self.assertIsNone(climb_tie(Book(Ties((0, 1)), [(0, 0, 1)])))
        self.assertEqual(climb_tie(Book(Ties((0, 2, 1)), [(1, 1, 0), (1, 1, 2)])), 1)


if __name__ == "__main__":
    unittest.main()
