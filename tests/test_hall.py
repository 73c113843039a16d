"""[5.1] to [5.3], [5.5], [5.7] to [5.10]: halls."""

import random
import unittest

from halls import (
    CLASHES, CLUMPS, COUPLES, FOUR, FREE, OTHER_FOUR, THREE, WIDE, PlainHall, grown, joined_books, lawful_over,
    random_asking, rows_among, tie_of,
)
from joinedguests.book import Book
from joinedguests.clashjudge import clash_fault
from joinedguests.company import Company
from joinedguests.errors import BadRow, Full, HallBound, NoGuest, NoHall
from joinedguests.hall import Hall, tried
from joinedguests.ties import Ties
from oracle import BACKS, all_books, search


class HallCase(unittest.TestCase):
    def check(self, hall, plain):
        """The hall is as the plain one."""
        self.assertEqual(hall.company, plain.company)
        self.assertEqual(tuple(hall.came_for(label) for label in hall), plain.askings)
        self.assertEqual((len(hall), list(hall)), (len(plain.rows), list(range(len(plain.rows)))))

    def state(self, hall):
        return hall.book, hall.company, len(hall), list(hall), [hall.came_for(label) for label in hall]

    def bad(self, what, call, *things):
        with self.assertRaises(BadRow) as caught:
            call(*things)
        self.assertEqual(caught.exception.what, what)


class TestBeginning(HallCase):
    def test_nobody(self):
        hall = Hall(COUPLES)
        self.assertEqual(hall.book, COUPLES)
        self.assertEqual(hall.company, Company(Ties((0, 1))))
        self.assertEqual((len(hall), list(hall), 0 in hall), (0, [], False))
        self.assertEqual(hall.who_meet((), ()), ())

    def test_len_in_and_iteration(self):
        hall = Hall(FREE)
        hall.meet((), ())
        hall.meet((0,), (1,))
        self.assertEqual((len(hall), list(hall)), (2, [0, 1]))
        self.assertEqual([label in hall for label in (0, 1, 2)], [True, True, False])
        self.assertEqual(hall.company, Company(Ties((0, 1)), (0, 1), ((), (1,))))

    def test_books_with_a_clash_have_no_hall(self):
        refused = 0
        for book in all_books((0, 1)) + all_books((1, 0)) + all_books((0, 2, 1))[::5] + [CLASHES]:
            # A clash is seen in a company of at most ties + 1 guests.
            if search(book.ties.backs, book.barred, book.ties.many + 1)[0] != "clash":
                self.assertEqual(len(Hall(book)), 0)
                continue
            refused += 1
            with self.assertRaises(NoHall) as caught:
                Hall(book)
            self.assertIsNone(clash_fault(book, caught.exception.clash))
        self.assertTrue(refused > 10)


class TestMeet(HallCase):
    def test_first_guest(self):
        for backs in BACKS:
            hall = Hall(Book(Ties(backs)))
            self.assertEqual([hall.meet((), ()) for _ in range(3)], [0, 0, 0])
            self.assertEqual((len(hall), hall.came_for(0)), (1, ((), ())))

    def test_by_hand(self):
        hall = Hall(COUPLES)
        hall.meet((), ())
        # 1 is the partner of 0; 2 comes with tie 1 to 0, and so to 1; 3 is the partner of 2.
        self.assertEqual(hall.meet((0,), (0,)), 1)
        self.assertEqual(hall.meet((0,), (1,)), 2)
        self.assertEqual(hall.meet([2], [0]), 3)
        self.assertEqual(hall.company.rows, ((), (0,), (1, 1), (1, 1, 0)))
        self.assertEqual(hall.meet((1, 0), (1, 1)), 2)
        self.assertEqual(hall.meet((2, 0), (1, 1)), 4)
        self.assertEqual(hall.company.rows[4], (1, 1, 1, 1))
        self.assertEqual(hall.came_for(4), ((0, 2), (1, 1)))
        self.assertEqual(hall.who_meet((0,), (1,)), (2, 3, 4))

    def test_the_least_fine_ties_one_after_another(self):
        hall = Hall(Book(Ties((0, 1)), [(0, 0, 1)]))
        for guests, row in [((), ()), ((0,), (0,)), ((0,), (1,)), ((2,), (0,))]:
            hall.meet(guests, row)
        # Over nobody all ties are fine: 0 to the first guest, and so on in its clump, 1 to the other one.
        self.assertEqual(hall.meet((0, 2), (1, 1)), 4)
        self.assertEqual(hall.company.rows[4], (1, 1, 1, 1))
        self.assertEqual(hall.meet((4,), (0,)), 5)
        self.assertEqual(hall.company.rows[5], (1, 1, 1, 1, 0))

    def test_random_halls(self):
        """Books that join strictly and books that join only, guests passed in any order."""
        chance = random.Random(1)
        newcomers = met = 0
        for book in joined_books() + [COUPLES, FOUR, OTHER_FOUR, THREE, WIDE] * 3:
            hall, plain = Hall(book), PlainHall(book)
            for _ in range(14):
                asked = random_asking(chance, book, hall.company, 3)
                if asked is None:
                    continue
                before = len(hall)
                self.assertEqual(hall.who_meet(*asked), tuple(plain.who_meet(*asked)))
                self.assertEqual(len(hall), before)
                label = hall.meet(*asked)
                self.assertEqual(label, plain.meet(*asked))
                self.check(hall, plain)
                self.assertTrue(book.lets(hall.company))
                self.assertEqual([tie_of(hall.company, label, guest) for guest in asked[0]], list(asked[1]))
                newcomers += len(hall) > before
                met += len(hall) == before
        self.assertTrue(newcomers > 300 and met > 300, (newcomers, met))

    def test_each_lawful_row_can_be_met(self):
        chance = random.Random(2)
        for book in joined_books()[::2]:
            hall = grown(chance, book, 6)
            labels = sorted(chance.sample(range(len(hall)), min(3, len(hall))))
            for row in lawful_over(book, hall.company, labels):
                with hall.trial():
                    label = hall.meet(labels, row)
                    self.assertEqual(tuple(tie_of(hall.company, label, guest) for guest in labels), row)
                    self.assertTrue(book.lets(hall.company))

    def test_a_company_read_earlier(self):
        hall = Hall(FREE)
        hall.meet((), ())
        early = hall.company
        hall.meet((0,), (1,))
        self.assertEqual(early, Company(Ties((0, 1)), (0,), ((),)))
        self.assertEqual(len(hall.company), 2)

    def test_two_halls_share_nothing(self):
        one, other = Hall(FREE), Hall(FREE)
        one.meet((), ())
        one.meet((0,), (1,))
        self.assertEqual((len(one), len(other)), (2, 0))
        other.meet((), ())
        other.meet((0,), (0,))
        self.assertEqual((one.company.rows, other.company.rows), (((), (1,)), ((), (0,))))

    def test_what_is_passed_is_not_kept(self):
        hall = Hall(FREE)
        hall.meet((), ())
        guests, row = [0], [1]
        hall.meet(guests, row)
        guests.append(7)
        row[0] = 0
        self.assertEqual(hall.came_for(1), ((0,), (1,)))
        self.assertEqual(hall.company.rows, ((), (1,)))


class TestRefused(HallCase):
    def test_words(self):
        hall = Hall(COUPLES)
        hall.meet((), ())
        hall.meet((0,), (0,))
        hall.meet((0,), (1,))
        before = self.state(hall)
        for guests, row, what in [
            ((3,), (0,), "guest"), ((0, True), (0, 0), "guest"), ((None,), (0,), "guest"), ((0, 0), (0, 0), "double"),
            ((0,), (), "length"), ((), (0,), "length"), ((0,), (2,), "tie"), ((0,), (True,), "tie"),
            ((0, 1), (0, 0), "lawful"), ((1, 0), (0, 1), "lawful"), ((2, 1, 0), (1, 0, 0), "lawful"),
        ]:
            self.bad(what, hall.meet, guests, row)
            self.bad(what, hall.who_meet, guests, row)
            self.bad(what, hall.another, guests, row, ())
            # The asking comes ahead of `but`.
            self.bad(what, hall.another, guests, row, (9,))
            self.assertEqual(self.state(hall), before)
        for but in ((3,), (0, True), (None,), ("0",)):
            self.bad("but", hall.another, (0,), (1,), but)
            self.assertEqual(self.state(hall), before)

    def test_came_for_refused(self):
        hall = Hall(FREE)
        for label in (0, None, False, "0"):
            with self.assertRaises(NoGuest) as caught:
                hall.came_for(label)
            self.assertIs(caught.exception.label, label)
        hall.meet((), ())
        hall.meet((0,), (0,))
        for label in (2, -1, True):
            with self.assertRaises(NoGuest) as caught:
                hall.came_for(label)
            self.assertIs(caught.exception.label, label)


class TestAnother(HallCase):
    def step(self, hall, plain, asked, but):
        """Ask both halls for another; return what came of it."""
        guests, row = asked
        before, known = self.state(hall), dict(zip(guests, row))
        met = [label for label in plain.who_meet(guests, row) if label not in but]
        wider = plain.wider(known, but)
        if not met and not wider:
            with self.assertRaises(Full) as caught:
                hall.another(guests, row, but)
            self.assertEqual(caught.exception.lot, tuple(plain.who_meet(guests, row)))
            self.assertEqual(self.state(hall), before)
            self.check_full(hall, guests, row, but, caught.exception.lot)
            return "full"
        label = hall.another(guests, row, but)
        if met:
            self.assertEqual(label, met[0])
            self.assertEqual(self.state(hall), before)
            return "met"
        self.assertEqual(label, before[2])
        # Its ties to the guests of all may be any row; the others follow from these.
        told = {other: tie_of(hall.company, label, other) for other in set(guests) | set(but)}
        self.assertIn(told, wider)
        plain.seat(told)
        self.check(hall, plain)
        return "newcomer"

    def check_full(self, hall, guests, row, but, lot):
        """No company that holds the guests passed and those of lot as they stand has a further guest."""
        self.assertTrue(lot)
        self.assertTrue(set(lot) <= set(but))
        labels = sorted(set(guests) | set(lot))
        known = dict(zip(guests, row))
        for found in lawful_over(hall.book, hall.company, labels):
            self.assertFalse(all(tie == known.get(label, tie) for label, tie in zip(labels, found)))

    def test_random_halls(self):
        chance = random.Random(3)
        counts = {"full": 0, "met": 0, "newcomer": 0}
        for book in joined_books() + [COUPLES, FOUR, OTHER_FOUR, THREE, WIDE, CLUMPS] * 4:
            hall, plain = Hall(book), PlainHall(book)
            for _ in range(10):
                asked = random_asking(chance, book, hall.company, 2)
                if asked is None:
                    continue
                but = [chance.randrange(len(hall)) for _ in range(chance.randint(0, 5))] if len(hall) else []
                if chance.random() < 0.5:
                    but += hall.who_meet(*asked)
                counts[self.step(hall, plain, asked, but)] += 1
                if len(hall) > 8:
                    break
        self.assertTrue(min(counts.values()) > 80, counts)

    def test_by_hand(self):
        hall = Hall(COUPLES)
        self.assertEqual(hall.another((), (), ()), 0)
        self.assertEqual(hall.another((), (), ()), 0)
        self.assertEqual(hall.another((0,), (0,), (0,)), 1)
        self.assertEqual(hall.another((0,), (0,), ()), 1)
        with self.assertRaises(Full) as caught:
            hall.another([0], [0], [1, 0, 1])
        self.assertEqual(caught.exception.lot, (1,))
        self.assertEqual(hall.another((), (), (0,)), 1)
        self.assertEqual(hall.another((), (), (1, 0)), 2)
        self.assertEqual(hall.company.rows, ((), (0,), (1, 1)))
        self.assertEqual(hall.came_for(2), ((0, 1), (1, 1)))
        self.assertEqual(hall.another((2,), (1,), (0,)), 1)

    def test_the_whole_hall_is_full(self):
        for book, count in [(FOUR, 4), (OTHER_FOUR, 4), (THREE, 3)]:
            hall = Hall(book)
            for label in range(count):
                self.assertEqual(hall.another((), (), list(range(label))), label)
            with self.assertRaises(Full) as caught:
                hall.another((), (), range(count)[::-1])
            self.assertEqual(caught.exception.lot, tuple(range(count)))
            self.assertEqual(len(hall), count)

    def test_came_for(self):
        """Nobody with a smaller label meets the asking, and those in it have smaller labels."""
        chance = random.Random(4)
        for book in joined_books()[::2]:
            hall = Hall(book)
            for _ in range(8):
                asked = random_asking(chance, book, hall.company, 2)
                if asked is None:
                    continue
                if chance.random() < 0.5:
                    hall.meet(*asked)
                else:
                    but = chance.sample(range(len(hall)), chance.randint(0, len(hall)))
                    before = len(hall)
                    try:
                        label = hall.another(*asked, but)
                    except Full:
                        continue
                    if label == before:
                        guests, row = hall.came_for(label)
                        self.assertEqual(guests, tuple(sorted(set(asked[0]) | set(but))))
                        self.assertEqual(row, tuple(tie_of(hall.company, label, guest) for guest in guests))
            for label in hall:
                guests, row = hall.came_for(label)
                self.assertEqual((type(guests), type(row)), (tuple, tuple))
                self.assertEqual(list(guests), sorted(guests))
                self.assertTrue(all(guest < label for guest in guests))
                self.assertEqual(hall.who_meet(guests, row)[0], label)


class TestBound(HallCase):
    def test_sixty_guests(self):
        hall = Hall(CLUMPS)
        for label in range(60):
            self.assertEqual(hall.another((), (), list(range(label))), label)
        before = self.state(hall)
        self.assertEqual(len(hall), 60)
        new = (tuple(range(60)), (1,) * 60)
        for call in (
            lambda: hall.meet(*new), lambda: hall.another((), (), range(60)), lambda: hall.another((0,), (1,), range(60)),
        ):
            with self.assertRaises(HallBound):
                call()
            self.assertEqual(self.state(hall), before)
        # Askings that are met, or refused, are as ever.
        self.assertEqual(hall.meet((), ()), 0)
        self.assertEqual(hall.another((), (), range(59)), 59)
        self.assertEqual(hall.who_meet(*new), ())
        self.bad("length", hall.meet, (0,), ())

    def test_full_comes_ahead_of_the_bound(self):
        hall = Hall(COUPLES)
        hall.meet((), ())
        hall.meet((0,), (0,))
        while len(hall) < 60:
            hall.another((), (), range(len(hall)))
        with self.assertRaises(Full) as caught:
            hall.another((0,), (0,), (1,))
        self.assertEqual(caught.exception.lot, (1,))
        with self.assertRaises(HallBound):
            hall.another((), (), range(60))

    def test_many_by_meet(self):
        hall = Hall(Book(Ties((1, 0, 2))))
        chance = random.Random(5)
        with self.assertRaises(HallBound):
            for _ in range(3000):
                before = self.state(hall)[:3]
                guests = chance.sample(range(len(hall)), min(len(hall), 5))
                hall.meet(guests, [chance.randrange(3) for _ in guests])
        self.assertEqual(self.state(hall)[:3], before)
        self.assertEqual(len(hall), 60)


class TestTrials(HallCase):
    def setUp(self):
        self.hall = Hall(FREE)
        self.hall.meet((), ())
        self.hall.meet((0,), (1,))
        self.before = self.state(self.hall)

    def test_a_trial(self):
        with self.hall.trial() as held:
            self.assertIs(held, self.hall)
            self.assertEqual(held.meet((0, 1), (0, 1)), 2)
            self.assertEqual(held.another((0,), (0,), (2,)), 3)
            self.assertEqual(len(held), 4)
        self.assertEqual(self.state(self.hall), self.before)
        with self.assertRaises(NoGuest):
            self.hall.came_for(2)
        # The next guest gets the label that the guest in the trial had.
        self.assertEqual(self.hall.meet((1,), (0,)), 2)
        self.assertEqual(self.hall.came_for(2), ((1,), (0,)))

    def test_it_begins_with_the_block(self):
        trial = self.hall.trial()
        self.hall.meet((0, 1), (0, 0))
        before = self.state(self.hall)
        with trial as held:
            held.meet((0, 1, 2), (0, 0, 0))
        self.assertEqual(self.state(self.hall), before)

    def test_errors_end_it_and_go_on(self):
        for error in (KeyError, ZeroDivisionError, KeyboardInterrupt, HallBound):
            with self.assertRaises(error):
                with self.hall.trial():
                    self.hall.meet((0, 1), (0, 0))
                    raise error()
            self.assertEqual(self.state(self.hall), self.before)
        with self.assertRaises(BadRow):
            with self.hall.trial():
                self.hall.meet((0, 1), (0, 0))
                self.hall.meet((9,), (0,))
        self.assertEqual(self.state(self.hall), self.before)

    def test_trials_within_trials(self):
        with self.hall.trial():
            self.hall.meet((0, 1), (0, 0))
            middle = self.state(self.hall)
            with self.assertRaises(KeyError):
                with self.hall.trial():
                    self.hall.meet((0, 1, 2), (0, 0, 0))
                    with self.hall.trial() as inmost:
                        inmost.meet((3,), (1,))
                        inmost.meet((0, 3), (0, 0))
                    self.assertEqual(len(self.hall), 4)
                    raise KeyError(1)
            self.assertEqual(self.state(self.hall), middle)
            with self.hall.trial():
                self.hall.meet((2,), (1,))
            self.assertEqual(self.state(self.hall), middle)
        self.assertEqual(self.state(self.hall), self.before)

    def test_tried(self):
        self.assertEqual(tried(self.hall, ()), ())
        # The second asking speaks of the guest that comes for the first one.
        asked = [((0, 1), (0, 0)), [[2], [1]], ((), ()), ((2, 0, 1), (1, 1, 0))]
        self.assertEqual(tried(self.hall, asked), (2, 3, 0, 4))
        self.assertEqual(self.state(self.hall), self.before)
        self.assertEqual(tried(self.hall, tuple(asked)), (2, 3, 0, 4))
        with self.hall.trial():
            self.hall.meet((0, 1), (0, 0))
            self.assertEqual(tried(self.hall, asked), (2, 3, 0, 4))
            self.assertEqual(len(self.hall), 3)
        self.assertEqual(self.state(self.hall), self.before)

    def test_tried_against_meet(self):
        chance = random.Random(6)
        for book in joined_books()[::3]:
            hall, real = grown(chance, book, 4), Hall(book)
            for label in hall:
                real.meet(*hall.came_for(label))
            before = self.state(hall)
            asked, labels = [], []
            for _ in range(6):
                one = random_asking(chance, book, real.company, 3)
                if one is not None:
                    asked.append(one)
                    labels.append(real.meet(*one))
            self.assertEqual(tried(hall, asked), tuple(labels))
            self.assertEqual(self.state(hall), before)

    def test_errors_in_tried(self):
        for asked, what in [([((0, 1), (0, 0)), ((3,), (0,))], "guest"), ([((), ()), ((0, 1), (0,))], "length")]:
            self.bad(what, tried, self.hall, asked)
            self.assertEqual(self.state(self.hall), self.before)
        chains = [(tuple(range(count)), (0,) * count) for count in range(2, 61)]
        hall = Hall(CLUMPS)
        hall.meet((), ())
        hall.meet((0,), (0,))
        before = self.state(hall)
        with self.assertRaises(HallBound):
            tried(hall, chains)
        self.assertEqual(self.state(hall), before)
        self.assertEqual(tried(hall, chains[:-1]), tuple(range(2, 60)))


class TestPlain(unittest.TestCase):
    def test_rows_among(self):
        """The second versions here read ties from rows alone."""
        told = Company(Ties((1, 0, 2)), (3, 5, 9), ((), (0,), (2, 1)))
        self.assertEqual([tie_of(told, 3, 5), tie_of(told, 5, 3), tie_of(told, 5, 9)], [1, 0, 0])
        self.assertEqual(rows_among(told, (9, 3)), ((), (2,)))


if __name__ == "__main__":
    unittest.main()
