"""[10.12] to [10.14]: mends."""

import random
import unittest
from functools import lru_cache
from itertools import combinations

from joinedguests.book import Book
from joinedguests.clashjudge import joins_fault
from joinedguests.company import Company
from joinedguests.errors import BadChange, BadKind, OtherTies
from joinedguests.mends import Mend, good_lots, least_mends, mends_fault, spoilers
from joinedguests.ties import Ties
from joinedguests.verdict import Clash, Joins, Strict, verdict_of
from oracle import BACKS, all_books, chain, classes, closed, company, first_barred, let_rows, search

TWO = Book(Ties((0, 1)), [(0, 0, 0), (1, 1, 1)])
POOL = (("let", 0, 0, 0), ("let", 1, 1, 1), ("bar", 0, 0, 1), ("bar", 0, 1, 1))
KINDS = {"strict": ("strict",), "joins": ("strict", "joins")}


def behind(book, pool, lot):
    """The barred threes behind the changes of a lot, or None if one is needless."""
    backs, barred = book.ties.backs, set(book.barred)
    for index in lot:
        word, *three = pool[index]
        if (word == "bar") == (tuple(three) in barred):
            return None
        readings = closed(backs, [tuple(three)])
        barred = barred | readings if word == "bar" else barred - readings
    return barred


@lru_cache(maxsize=None)
def searched(backs, barred):
    return search(backs, barred, len(backs) + 1)[0]


def kind_of(backs, barred):
    return searched(backs, frozenset(barred))


def lots_of(pool):
    """All lots, shorter ones first, then ascending."""
    return [lot for count in range(len(pool) + 1) for lot in combinations(range(len(pool)), count)]


def good(book, pool, kind, sitting):
    """All good lots, by a search through all lots and, for each, through all companies."""
    found = []
    for lot in lots_of(pool):
        barred = behind(book, pool, lot)
        if barred is None or kind_of(book.ties.backs, barred) not in KINDS[kind]:
            continue
        if all(first_barred(book.ties.backs, barred, told.rows) is None for told in sitting):
            found.append(lot)
    return found


def least(lots):
    return [lot for lot in lots if not any(set(other) < set(lot) for other in lots)]


def random_pool(chance, book, count):
    kinds = classes(book.ties.backs)
    pool = []
    for _ in range(count):
        word = chance.choice(("bar", "let"))
        three = chance.choice(sorted(closed(book.ties.backs, [chance.choice(kinds)])))
        pool.append(chance.choice((list, tuple))((word, *three)))
    return chance.choice((list, tuple))(pool)


class MendsCase(unittest.TestCase):
    def cases(self, many, seed):
        """Books, pools, kinds and sittings at random; most of two ties."""
        chance = random.Random(seed)
        books = all_books((0, 1)) + all_books((1, 0))
        wide = all_books((0, 2, 1))[::25]
        for _ in range(many):
            book = chance.choice(books if chance.random() < 0.8 else wide)
            two = book.ties.many == 2
            pool = random_pool(chance, book, chance.randint(1, 6 if two else 3))
            sitting = []
            for _ in range(chance.choice((0, 0, 1, 2))):
                rows = chance.choice(let_rows(book.ties.backs, (), chance.randint(0, 3)))
                sitting.append(company(book.ties.backs, rows))
            yield book, pool, chance.choice(("strict", "joins")), chance.choice((list, tuple))(sitting)

    def bad(self, error, told, call, *things):
        with self.assertRaises(error) as caught:
            call(*things)
        self.assertEqual(vars(caught.exception), told)


class TestGoodLots(MendsCase):
    def test_against_a_search(self):
        found = 0
        for book, pool, kind, sitting in self.cases(250, 1):
            expected = tuple(good(book, pool, kind, sitting))
            self.assertEqual(good_lots(book, pool, kind, sitting), expected)
            found += len(expected) > 1
        self.assertTrue(found > 60, found)

    def test_by_hand(self):
        # Both threes of one tie barred: a clash; with either of them let the book joins strictly.
        self.assertEqual(
            good_lots(TWO, POOL, "strict"), ((0,), (1,), (0, 1), (0, 2), (1, 3), (0, 1, 2), (0, 1, 3)))
        self.assertEqual(
            good_lots(TWO, POOL, "joins"),
            ((0,), (1,), (2,), (3,), (0, 1), (0, 2), (0, 3), (1, 2), (1, 3), (0, 1, 2), (0, 1, 3)))
        self.assertEqual(good_lots(TWO, [("let", 0, 0, 0), ("bar", 0, 0, 0)], "joins"), ((0,),))
        free = Book(Ties((0, 1)))
        self.assertEqual(good_lots(free, [("bar", 0, 0, 1)], "strict"), ((), (0,)))
        self.assertEqual(good_lots(free, [("let", 0, 0, 1)], "strict"), ((),))
        # A change can be made twice if it is undone between.
        told = [("bar", 0, 0, 1), ("let", 1, 0, 0), ("bar", 0, 1, 0)]
        self.assertEqual(good_lots(free, told, "strict"), ((), (0,), (2,), (0, 1), (0, 1, 2)))

    def test_sitting(self):
        free = Book(Ties((0, 1)))
        told = [("bar", 0, 0, 1), ("bar", 1, 1, 1)]
        sitting = [chain((0, 1), 1, [4, 5, 9])]
        self.assertEqual(good_lots(free, told[:1], "joins", sitting), ((), (0,)))
        for pool in (told, told[::-1]):
            for lot in good_lots(free, pool, "joins", sitting):
                self.assertNotIn(("bar", 1, 1, 1), [pool[index] for index in lot])
        self.assertEqual(good_lots(Book(Ties((0, 1)), [(1, 1, 1)]), told[:1], "joins", sitting), ())

    def test_four_ties(self):
        book = Book(Ties((0, 1, 3, 2)))
        for word, threes in [("bar", classes(book.ties.backs)[:4]), ("bar", classes(book.ties.backs)[-3:])]:
            pool = [(word, *three) for three in threes]
            for lot in good_lots(book, pool, "strict"):
                self.assertIsInstance(verdict_of(Book(book.ties, [threes[index] for index in lot])), Strict)
            self.assertIn((), good_lots(book, pool, "strict"))


class TestLeastMends(MendsCase):
    def test_against_a_search(self):
        many = 0
        for book, pool, kind, sitting in self.cases(350, 2):
            mends = least_mends(book, pool, kind, sitting)
            self.assertIs(type(mends), tuple)
            self.assertEqual([mend.lot for mend in mends], least(good(book, pool, kind, sitting)))
            for mend in mends:
                self.assertEqual((type(mend), type(mend.lot)), (Mend, tuple))
                self.assertEqual(mend.book, Book(book.ties, sorted(behind(book, pool, mend.lot))))
                told = kind_of(book.ties.backs, mend.book.barred)
                self.assertEqual(mend.verdict.KIND, told)
                if told == "joins":
                    self.assertIsNone(joins_fault(mend.book, mend.verdict))
            many += len(mends) > 1
            self.assertIsNone(mends_fault(book, pool, kind, sitting, mends))
            self.assertIsNone(mends_fault(book, pool, kind, sitting, list(mends)))
        self.assertTrue(many > 10, many)

    def test_a_book_that_is_good(self):
        mends = least_mends(Book(Ties((0, 1))), [("bar", 0, 0, 1)], "strict")
        self.assertEqual([(mend.lot, mend.book, mend.verdict) for mend in mends], [((), Book(Ties((0, 1))), Strict())])


class TestSpoilers(MendsCase):
    def test_against_a_search(self):
        found = 0
        for book, pool, kind, sitting in self.cases(300, 3):
            lots = good(book, pool, kind, sitting)
            expected = []
            for lot in least(lots):
                for index in range(len(pool)):
                    wider = tuple(sorted({*lot, index}))
                    if index not in lot and behind(book, pool, wider) is not None and wider not in lots:
                        expected.append((lot, index))
            self.assertEqual(spoilers(book, pool, kind, sitting), tuple(expected))
            found += len(expected) > 0
        self.assertTrue(found > 60, found)

    def test_needless_changes_spoil_nothing(self):
        free = Book(Ties((0, 1)))
        self.assertEqual(spoilers(free, [("let", 0, 0, 0)], "strict"), ())
        half = Book(Ties((0, 1)), [(0, 0, 0)])
        self.assertEqual(spoilers(half, [("let", 0, 0, 1), ("bar", 1, 1, 1)], "joins"), (((), 1),))
        self.assertEqual(spoilers(half, [("bar", 0, 0, 1), ("bar", 1, 1, 1)], "strict"), (((), 0), ((), 1)))
        self.assertEqual(spoilers(half, [("bar", 0, 0, 1), ("bar", 1, 1, 1)], "joins"), (((), 1),))


class TestRefused(MendsCase):
    def calls(self):
        return (
            good_lots, least_mends, spoilers,
            lambda book, pool, kind, sitting=(): mends_fault(book, pool, kind, sitting, [None]),
        )

    def test_pool(self):
        for call in self.calls():
            for pool in (None, "bar", {}, {1: 2}, (), [], [("bar", 0, 0, 0)] * 7, ("x",) * 7, 3):
                self.bad(BadChange, {"index": 0, "what": "pool"}, call, TWO, pool, "x", [chain((1, 0), 0, [1])])

    def test_change_by_change(self):
        right = ("bar", 0, 0, 1)
        for call in self.calls():
            for pool, index, what in [
                ([("bar", 0, 0)], 0, "change"), ([right, ("ban", 0, 0, 0)], 1, "change"), ([right, "bar0"], 1, "change"),
                ([right, right, None], 2, "change"), ([right, (True, 0, 0, 0)], 1, "change"),
                ([("bar", 0, 0, 2)], 0, "three"), ([right, ["let", 0, True, 0]], 1, "three"),
                ([right, ("let", 0, 0, None)], 1, "three"), ([("bar", 0, 0, 9), ("ban", 0, 0, 9)], 0, "three"),
                ([("ban", 0, 0, 9), ("bar", 0, 0, 9)], 0, "change"),
            ]:
                self.bad(BadChange, {"index": index, "what": what}, call, TWO, pool, "x", [chain((1, 0), 0, [1])])

    def test_kind(self):
        for call in self.calls():
            for kind in ("clash", "", None, True, "Strict", ("strict",), ["joins"]):
                self.bad(BadKind, {"kind": kind}, call, TWO, POOL, kind, [chain((1, 0), 0, [1])])

    def test_other_ties(self):
        for call in self.calls():
            for sitting in ([chain((1, 0), 0, [1])], (Company(Ties((0, 1))), Company(Ties((0, 1, 2))))):
                self.bad(OtherTies, {}, call, TWO, POOL, "joins", sitting)

    def test_needless_is_no_error(self):
        for call in (good_lots, least_mends, spoilers):
            for pool in ([("bar", 0, 0, 0)], [("bar", 0, 0, 1)] * 3):
                self.assertIs(type(call(TWO, pool, "joins")), tuple)


class TestMendsFault(MendsCase):
    def setUp(self):
        self.book = Book(Ties((0, 1)), [(0, 0, 0), (1, 1, 1), (0, 0, 1), (0, 1, 1)])
        self.pool = [("let", 0, 0, 0), ("let", 1, 1, 1), ("let", 0, 0, 1), ("let", 0, 1, 1)]
        self.mends = least_mends(self.book, self.pool, "joins")
        self.good = good_lots(self.book, self.pool, "joins")
        self.assertTrue(len(self.mends) > 1)

    def fault(self, mends):
        told = mends_fault(self.book, self.pool, "joins", (), mends)
        self.assertEqual(mends_fault(self.book, self.pool, "joins", [], tuple(mends)), told)
        return told

    def mend(self, lot, **more):
        told = Book(self.book.ties, sorted(behind(self.book, self.pool, lot)))
        return Mend(lot, more.get("book", told), more.get("verdict", verdict_of(told)))

    def test_right(self):
        self.assertIsNone(self.fault(self.mends))

    def test_order(self):
        first, *rest = self.mends
        for lot in (
            [0], None, "0", 0, (1, 0), (0, 0), (4,), (-1,), (True,), (0, None), ("0",), ((),), {}, (0.0,), (False, 1),
        ):
            self.assertEqual(self.fault([Mend(lot, first.book, first.verdict), *rest]), "order", lot)
            self.assertEqual(self.fault([*self.mends, Mend(lot, first.book, first.verdict)]), "order", lot)
        self.assertEqual(self.fault(self.mends[::-1]), "order")
        self.assertEqual(self.fault([first, first, *rest]), "order")

    def test_bad(self):
        first, *rest = self.mends
        self.assertEqual(self.fault([Mend(first.lot, self.book, first.verdict), *rest]), "bad")
        self.assertEqual(self.fault([Mend(first.lot, rest[0].book, rest[0].verdict), *rest]), "bad")
        lacks = [lot for lot in lots_of(self.pool) if lot not in self.good]
        self.assertTrue(lacks)
        for lot in lacks:
            if behind(self.book, self.pool, lot) is not None:
                told = sorted([*self.mends, self.mend(lot)], key=lambda mend: (len(mend.lot), mend.lot))
                self.assertEqual(self.fault(told), "bad", lot)
        clash = verdict_of(TWO)
        self.assertIsInstance(clash, Clash)
        for mend in self.mends:
            wrong = [clash, Joins(Company(Ties((0, 1))), (), (None, None))]
            if isinstance(mend.verdict, Joins):
                wrong.append(Strict())
            for verdict in wrong:
                told = [Mend(mend.lot, mend.book, verdict) if other is mend else other for other in self.mends]
                self.assertEqual(self.fault(told), "bad")

    def test_bad_by_kind_and_by_sitting(self):
        """Book and verdict may be right behind a lot that is not good."""
        for mend in self.mends:
            told = mends_fault(self.book, self.pool, "strict", (), [mend])
            expected = "bad" if isinstance(mend.verdict, Joins) else None
            self.assertEqual(told if told == "bad" else None, expected)
        self.assertTrue(any(isinstance(mend.verdict, Joins) for mend in self.mends))
        free = Book(Ties((0, 1)), [(1, 1, 1)])
        mend = Mend((), free, Strict())
        self.assertIsNone(mends_fault(free, [("bar", 0, 0, 0)], "strict", (), [mend]))
        sitting = [chain((0, 1), 0, [1, 2, 3]), chain((0, 1), 1, [1, 2, 3])]
        self.assertIsNone(mends_fault(free, [("bar", 0, 0, 0)], "strict", sitting[:1], [mend]))
        self.assertEqual(mends_fault(free, [("bar", 0, 0, 0)], "strict", sitting, [mend]), "bad")

    def test_any_right_joins_will_do(self):
        """A Joins with more guests than need be is right, too; for a book that joins strictly none is."""
        book = Book(Ties((0, 1)), [(0, 0, 0), (0, 0, 1)])
        (mend,) = least_mends(book, [("bar", 1, 1, 1)], "joins")
        self.assertEqual((mend.lot, type(mend.verdict)), ((), Joins))
        told = Joins(Company(Ties((0, 1)), (3, 6), ((), (1,))), [0, 1], [3, 3])
        self.assertIsNone(joins_fault(book, told))
        self.assertIsNone(mends_fault(book, [("bar", 1, 1, 1)], "joins", (), [Mend((), book, told)]))
        told.witnesses = [3, 6]
        self.assertEqual(mends_fault(book, [("bar", 1, 1, 1)], "joins", (), [Mend((), book, told)]), "bad")
        free = Book(Ties((0, 1)))
        for kind in ("strict", "joins"):
            self.assertIsNone(mends_fault(free, [("bar", 1, 1, 1)], kind, (), [Mend((), free, Strict())]))
            self.assertEqual(mends_fault(free, [("bar", 1, 1, 1)], kind, (), [Mend((), free, told)]), "bad")

    def test_smaller(self):
        wider = [lot for lot in self.good if lot not in [mend.lot for mend in self.mends]]
        self.assertTrue(wider)
        for lot in wider:
            told = sorted([*self.mends, self.mend(lot)], key=lambda mend: (len(mend.lot), mend.lot))
            self.assertEqual(self.fault(told), "smaller")
            # Another good lot need not be told among the mends.
            self.assertEqual(self.fault([self.mend(lot)]), "smaller")

    def test_lacking(self):
        for mend in self.mends:
            self.assertEqual(self.fault([other for other in self.mends if other is not mend]), "lacking")
        self.assertEqual(self.fault([]), "lacking")

    def test_each_word_in_all_mends_before_the_next(self):
        wider = [lot for lot in self.good if lot not in [mend.lot for mend in self.mends]]
        smaller, bad = self.mend(wider[-1]), Mend(self.mends[0].lot, self.book, Strict())
        self.assertEqual(self.fault([bad, Mend([9], None, None)]), "order")
        self.assertEqual(self.fault([smaller, Mend((0, 0), None, None)]), "order")
        self.assertEqual(self.fault([self.mend(wider[0]), Mend((0, 1, 2, 3), self.book, Strict())]), "bad")
        self.assertEqual(self.fault([*self.mends[1:], smaller]), "smaller")

    def test_no_mends(self):
        self.assertEqual(least_mends(TWO, [("bar", 0, 0, 0)], "strict"), ())
        self.assertIsNone(mends_fault(TWO, [("bar", 0, 0, 0)], "strict", (), ()))
        told = Mend((), TWO, verdict_of(TWO))
        self.assertEqual(mends_fault(TWO, [("bar", 0, 0, 0)], "strict", (), [told]), "bad")


class TestMend(unittest.TestCase):
    def test_it_keeps_what_it_is_passed(self):
        lot, verdict = [3], Strict()
        mend = Mend(lot, TWO, verdict)
        self.assertEqual(list(vars(mend)), ["lot", "book", "verdict"])
        self.assertIs(mend.lot, lot)
        self.assertIs(mend.book, TWO)
        self.assertIs(mend.verdict, verdict)

    def test_backs_of_all_kinds(self):
        for backs in BACKS:
            book = Book(Ties(backs))
            self.assertEqual([mend.lot for mend in least_mends(book, [("bar", 0, 0, 0)], "strict")], [()])


if __name__ == "__main__":
    unittest.main()
