"""[5.11] to [5.13], [4.7]: companies and halls led into halls."""

import random
import unittest
from itertools import combinations

from halls import (
    CLUMPS, COUPLES, FOUR, FREE, THREE, WIDE, grown, joined_books, random_company, tie_of,
)
from joinedguests.book import Book
from joinedguests.company import Company
from joinedguests.errors import BadGrowth, BadPairs, HallBound, NoGuest, NotLet, OtherBook, OtherTies
from joinedguests.growing import finish, grow
from joinedguests.hall import Hall
from joinedguests.leading import lead_all, lead_back, lead_on, seat_company, zigzag
from joinedguests.merging import merge
from joinedguests.ties import Ties
from oracle import chain


def state(hall):
    return hall.company, [hall.came_for(label) for label in hall]


def copied(hall):
    """Another hall with the same guests."""
    other = Hall(hall.book)
    for label in hall:
        others = list(range(label))
        assert other.another(others, [tie_of(hall.company, label, guest) for guest in others], []) == label
    return other


def chained(count):
    """A hall of so many guests, all in one clump."""
    hall = Hall(CLUMPS)
    for label in range(count):
        hall.meet(tuple(range(label)), (0,) * label)
    return hall


class LeadCase(unittest.TestCase):
    def check_pairs(self, one, other, pairs):
        """Pairs lead guests to unlike guests and keep all ties."""
        self.assertIs(type(pairs), tuple)
        self.assertTrue(all(type(pair) is tuple and len(pair) == 2 for pair in pairs))
        for (a, x), (b, y) in combinations(pairs, 2):
            self.assertTrue(a != b and x != y)
            self.assertEqual(tie_of(one.company, a, b), tie_of(other.company, x, y))

    def bad(self, error, what, call, *things):
        with self.assertRaises(error) as caught:
            call(*things)
        if what is not None:
            self.assertEqual(caught.exception.what, what)


class TestSeatCompany(LeadCase):
    def test_every_company_sits(self):
        chance = random.Random(1)
        for book in joined_books():
            hall = grown(chance, book, 3)
            for _ in range(4):
                told = random_company(chance, book, 4)
                meets = copied(hall)
                labels = seat_company(hall, told)
                self.assertIs(type(labels), tuple)
                self.assertEqual(len(set(labels)), len(told))
                for (a, x), (b, y) in combinations(list(zip(told.guests, labels)), 2):
                    self.assertEqual(tie_of(told, a, b), tie_of(hall.company, x, y))
                # Each goes where meet leads it.
                expected = []
                for at in range(len(told)):
                    row = [tie_of(told, told.guests[at], guest) for guest in told.guests[:at]]
                    expected.append(meets.meet(expected, row))
                self.assertEqual(labels, tuple(expected))
                self.assertEqual(state(hall)[0], state(meets)[0])

    def test_by_hand(self):
        hall = Hall(COUPLES)
        self.assertEqual(seat_company(hall, Company(Ties((0, 1)))), ())
        self.assertEqual(len(hall), 0)
        self.assertEqual(seat_company(hall, Company(Ties((0, 1)), (3, 5, 9), ((), (1,), (0, 1)))), (0, 1, 2))
        self.assertEqual(hall.company.rows, ((), (1,), (0, 1)))
        self.assertEqual(seat_company(hall, Company(Ties((0, 1)), (1, 2), ((), (0,)))), (0, 2))

    def test_what_merge_puts_together_sits(self):
        """Two companies that agree sit in a hall as they are merged."""
        chance = random.Random(2)
        made_one = 0
        for book in joined_books() * 3:
            whole = random_company(chance, book, 5)
            one = whole.part_of(whole.guests[:3])
            while True:
                told = random_company(chance, book, 3)
                shift = list(zip(told.guests, sorted(chance.sample(range(30), len(told)))))
                other = told.renamed(shift)
                common = [label for label in one if label in other]
                if all(tie_of(one, x, y) == tie_of(other, x, y) for x, y in combinations(common, 2)):
                    break
            merged = merge(book, one, other)
            hall = grown(chance, book, 2)
            seats = dict(zip(merged.company.guests, seat_company(hall, merged.company)))
            self.assertEqual(len(set(seats.values())), len(merged.company))
            made_one += len(merged.made_one)
            for part in (one, other):
                for x, y in combinations(part.guests, 2):
                    x_seat, y_seat = seats[merged.host_of(x)], seats[merged.host_of(y)]
                    self.assertEqual(tie_of(part, x, y), tie_of(hall.company, x_seat, y_seat))
        self.assertTrue(made_one > 0)

    def test_refused(self):
        hall = Hall(COUPLES)
        hall.meet((), ())
        self.bad(OtherTies, None, seat_company, hall, chain((1, 0), 0, [1, 2, 3]))
        self.bad(OtherTies, None, seat_company, hall, Company(Ties((0, 1, 2))))
        self.bad(NotLet, "company", seat_company, hall, chain((0, 1), 0, [1, 2, 3]))
        self.assertEqual(len(hall), 1)

    def test_bound(self):
        hall = chained(58)
        before = state(hall)
        # The clump of 1, 2 and 3 is found in the hall, the others are not.
        told = Company(Ties((0, 1)), (1, 2, 3, 4), ((), (1,), (1, 1), (1, 1, 1)))
        self.bad(HallBound, None, seat_company, hall, told)
        self.assertEqual(state(hall), before)
        self.assertEqual(seat_company(hall, told.without(4)), (0, 58, 59))
        self.assertEqual(len(hall), 60)


class TestLeadOn(LeadCase):
    def test_against_meet(self):
        chance = random.Random(3)
        grew = 0
        for book in joined_books():
            one, other = grown(chance, book, 6), grown(chance, book, 3)
            pairs, before = [], state(one)
            for guest in chance.sample(list(one), len(one)):
                row = [tie_of(one.company, guest, first) for first, _ in pairs]
                met = other.who_meet([second for _, second in pairs], row)
                count = len(other)
                label = lead_on(one, other, pairs, guest)
                self.assertEqual(label, met[0] if met else count)
                grew += not met
                pairs.append((guest, label))
                self.check_pairs(one, other, tuple(pairs))
                # A guest that is led already stays where it is.
                self.assertEqual(lead_on(one, other, pairs, pairs[0][0]), pairs[0][1])
            self.assertEqual(state(one), before)
        self.assertTrue(grew > 30, grew)

    def test_lead_back_is_the_other_way_about(self):
        chance = random.Random(4)
        for book in joined_books()[::2]:
            one, other = grown(chance, book, 3), grown(chance, book, 6)
            pairs, before = [], state(other)
            for guest in chance.sample(list(other), len(other)):
                turned = [(second, first) for first, second in pairs]
                twin = copied(one)
                expected = lead_on(other, twin, turned, guest)
                label = lead_back(one, other, pairs, guest)
                self.assertEqual((label, one.company), (expected, twin.company))
                pairs.append((label, guest))
                self.check_pairs(one, other, tuple(pairs))
                self.assertEqual(lead_back(one, other, pairs, pairs[0][1]), pairs[0][0])
            self.assertEqual(state(other), before)

    def test_one_way_ties(self):
        one, other = Hall(Book(Ties((1, 0)))), Hall(Book(Ties((1, 0))))
        one.meet((), ())
        one.meet((0,), (0,))
        other.meet((), ())
        # From guest 1 to guest 0 the tie is 0, so whom 0 is led to behind 1 has tie 1 to it.
        self.assertEqual(lead_on(one, other, [(1, 0)], 0), 1)
        self.assertEqual(other.company.rows, ((), (1,)))
        self.assertEqual(lead_back(one, other, [[1, 0]], 1), 0)

    def test_pairs_refused(self):
        one, other = Hall(COUPLES), Hall(COUPLES)
        for hall, row in [(one, (0,)), (other, (1,))]:
            hall.meet((), ())
            hall.meet((0,), row)
            hall.meet((0,), (1,) if row == (0,) else (0,))
        before = state(one), state(other)
        # Ties to 0: in one 0 to guest 1 and 1 to guest 2, in other the other way round.
        for pairs, what in [
            ([(3, 0)], "guest"), ([(0, 3)], "guest"), ([(0, None)], "guest"), ([(False, 0)], "guest"),
            ([(0, 1), (1, True)], "guest"), ([(0, 0), (0, 1)], "double"), ([(0, 0), (1, 0)], "double"),
            ([(0, 0), (1, 2), (0, 0)], "double"), ([(0, 0), (1, 1)], "tie"), ([(2, 1), (1, 2), (0, 1)], "double"),
            ([(1, 1), (2, 2), (0, 0)], "tie"), ([(0, 0), (2, 2)], "tie"),
            # All words for one pair ahead of the next pair.
            ([(0, 0), (1, 1), (9, 9)], "tie"), ([(0, 0), (0, 9)], "guest"), ([(0, 0), (0, 1), (1, 1)], "double"),
        ]:
            for call in (lead_on, lead_back):
                self.bad(BadPairs, what, call, one, other, pairs, 99)
                self.bad(BadPairs, what, call, one, other, tuple(pairs), 0)
            self.bad(BadPairs, what, lead_all, one, other, pairs)
            self.assertEqual((state(one), state(other)), before)

    def test_guest_refused_last(self):
        one, other = Hall(FREE), Hall(FREE)
        one.meet((), ())
        for call in (lead_on, lead_back):
            for guest in (1, True, False, None, -1):
                with self.assertRaises(NoGuest) as caught:
                    call(one, other, [], guest)
                self.assertIs(caught.exception.label, guest)
        # Each asks the hall in which its guest is.
        with self.assertRaises(NoGuest):
            lead_back(one, other, [], 0)
        with self.assertRaises(NoGuest):
            lead_on(other, one, (), 0)
        self.assertEqual((lead_on(one, other, (), 0), len(other)), (0, 1))

    def test_other_book_comes_first(self):
        one, other = Hall(FREE), Hall(COUPLES)
        for call, things in [
            (lead_on, ([(7, 7)], 9)), (lead_back, ([(7, 7)], 9)), (lead_all, ([(7, 7)],)), (zigzag, (99,)),
        ]:
            self.bad(OtherBook, None, call, one, other, *things)
        self.bad(OtherBook, None, lead_on, Hall(THREE), Hall(Book(Ties((0, 1)), [(0, 0, 0), (0, 0, 1)])), (), 0)
        # Equal books need not be the same object.
        again = Hall(Book(Ties([0, 1])))
        self.assertEqual(lead_all(again, one), ())

    def test_bound(self):
        one, other = Hall(CLUMPS), chained(60)
        one.meet((), ())
        one.meet((0,), (1,))
        before = state(other)
        self.bad(HallBound, None, lead_on, one, other, [(0, 0)], 1)
        self.assertEqual(state(other), before)
        self.bad(HallBound, None, lead_back, other, one, [(0, 0)], 1)
        self.assertEqual(state(other), before)


class TestLeadAll(LeadCase):
    def test_against_lead_on(self):
        chance = random.Random(5)
        for book in joined_books():
            one, other = grown(chance, book, 6), grown(chance, book, 3)
            passed = []
            for guest in chance.sample(list(one), min(2, len(one))):
                passed.append((guest, lead_on(one, other, passed, guest)))
            twin, expected, before = copied(other), list(passed), state(one)
            for guest in one:
                if guest not in [first for first, _ in expected]:
                    expected.append((guest, lead_on(one, twin, expected, guest)))
            kind = chance.choice((list, tuple))
            found = lead_all(one, other, kind([kind(pair) for pair in passed]))
            self.assertEqual(found, tuple(expected))
            self.check_pairs(one, other, found)
            self.assertEqual((state(one), other.company), (before, twin.company))
            self.assertEqual(sorted(first for first, _ in found), list(one))
            # All is led already.
            self.assertEqual(lead_all(one, other, found), found)

    def test_without_pairs(self):
        one, other = grow(COUPLES, 2, 1), Hall(COUPLES)
        self.assertEqual(lead_all(one, other), ((0, 0), (1, 1), (2, 2)))
        self.assertEqual(other.company, one.company)

    def test_a_hall_into_itself(self):
        hall = grow(COUPLES, 2, 1)
        self.assertEqual(lead_all(hall, hall), ((0, 0), (1, 1), (2, 2)))
        # Led by 0 to 2, guest 2 needs another couple; guests that come in the call are not led.
        pairs = lead_all(hall, hall, [(0, 2)])
        self.check_pairs(hall, hall, pairs)
        self.assertEqual([first for first, _ in pairs], [0, 1, 2])
        self.assertTrue(len(hall) > 3)
        chance = random.Random(6)
        for book in joined_books()[::2]:
            hall = grown(chance, book, 4)
            there = list(hall)
            first, second = (chance.choice(there), chance.choice(there)) if there else (None, None)
            pairs = lead_all(hall, hall, [(first, second)] if there else ())
            self.assertEqual(sorted(first for first, _ in pairs), there)
            self.check_pairs(hall, hall, pairs)

    def test_whole_halls(self):
        """Whole halls of a book are led onto one another."""
        for book in (FOUR, THREE):
            one, other = finish(book), Hall(book)
            for label in range(len(one)):
                other.another((), (), range(label))
            for guest in other:
                pairs = lead_all(one, other, [(0, guest)])
                self.check_pairs(one, other, pairs)
                self.assertEqual(sorted(second for _, second in pairs), list(other))

    def test_bound(self):
        one, other = Hall(CLUMPS), chained(57)
        for label in range(4):
            one.meet(tuple(range(label)), (1,) * label)
        one.meet((0,), (0,))
        before = state(one), state(other)
        self.assertEqual(len(lead_all(one, copied(other), [(0, 0)])), 5)
        other = chained(58)
        before = state(one), state(other)
        self.bad(HallBound, None, lead_all, one, other, [(0, 0)])
        self.assertEqual((state(one), state(other)), before)


class TestZigzag(LeadCase):
    def plain(self, one, other, turns):
        """The pairs by lead_on and lead_back, turn by turn."""
        pairs = []
        for turn in range(1, turns + 1):
            if turn % 2:
                free = [guest for guest in one if guest not in [first for first, _ in pairs]]
                if free:
                    pairs.append((free[0], lead_on(one, other, pairs, free[0])))
            else:
                free = [guest for guest in other if guest not in [second for _, second in pairs]]
                if free:
                    pairs.append((lead_back(one, other, pairs, free[0]), free[0]))
        return tuple(pairs)

    def test_turns(self):
        chance = random.Random(7)
        idle = 0
        for book in joined_books():
            one, other = grown(chance, book, chance.randint(0, 5)), grown(chance, book, chance.randint(0, 5))
            for turns in range(11):
                left, right = copied(one), copied(other)
                plain_left, plain_right = copied(one), copied(other)
                pairs = zigzag(left, right, turns)
                self.assertEqual(pairs, self.plain(plain_left, plain_right, turns))
                self.assertEqual((left.company, right.company), (plain_left.company, plain_right.company))
                self.check_pairs(left, right, pairs)
                idle += len(pairs) < turns
        self.assertTrue(idle > 30)

    def test_whole_halls_are_led_onto_one_another(self):
        for book in (FOUR, THREE):
            one, other = finish(book), finish(book)
            count = len(one)
            pairs = zigzag(one, other, 60)
            self.assertEqual((len(pairs), len(one), len(other)), (count, count, count))

    def test_by_hand(self):
        one, other = grow(COUPLES, 2, 1), Hall(COUPLES)
        self.assertEqual(zigzag(one, other, 0), ())
        self.assertEqual((zigzag(one, other, 1), len(other)), (((0, 0),), 1))
        # The second turn finds nobody in other without a pair.
        self.assertEqual(zigzag(one, other, 3), ((0, 0), (1, 1)))
        self.assertEqual(zigzag(Hall(FREE), Hall(FREE), 60), ())

    def test_a_hall_and_itself(self):
        hall = grow(FREE, 2, 1)
        pairs = zigzag(hall, hall, 4)
        self.check_pairs(hall, hall, pairs)
        self.assertEqual(pairs, ((0, 0), (1, 1), (2, 2)))

    def test_refused(self):
        one, other = Hall(FREE), Hall(FREE)
        one.meet((), ())
        for turns in (-1, 61, True, False, None, "3", 2.0):
            self.bad(BadGrowth, "turns", zigzag, one, other, turns)
        self.assertEqual((len(one), len(other)), (1, 0))

    def test_bound(self):
        # The guests of other are alike to nobody of one, which can not take them all.
        one, other = chained(59), Hall(CLUMPS)
        for label in range(6):
            other.meet(tuple(range(label)), (1,) * label)
        before = state(one), state(other)
        self.bad(HallBound, None, zigzag, one, other, 8)
        self.assertEqual((state(one), state(other)), before)
        self.bad(HallBound, None, zigzag, other, one, 9)
        self.assertEqual((state(one), state(other)), before)
        self.assertEqual(len(zigzag(one, other, 3)), 3)
        self.assertTrue(len(one) == 60 or len(other) > 6)


class TestHallsOfWideBooks(LeadCase):
    def test_lead_all(self):
        chance = random.Random(8)
        for book in (WIDE, Book(Ties((0, 1, 3, 2)))):
            one, other = grown(chance, book, 8), grown(chance, book, 8)
            self.check_pairs(one, other, lead_all(one, other))


if __name__ == "__main__":
    unittest.main()
