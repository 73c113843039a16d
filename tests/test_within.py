"""[10.3] to [10.5]: book within book."""

import random
import unittest
from itertools import permutations, product

from joinedguests.book import Book
from joinedguests.clashjudge import clash_fault, joins_fault
from joinedguests.company import Company
from joinedguests.errors import BadLots, NotLet, OtherTies, TooMany
from joinedguests.ties import Ties
from joinedguests.verdict import Clash, Joins, Strict
from joinedguests.within import Lots, book_within, lots_of, put_within, within_verdict
from oracle import all_books, chain, company, first_barred, lawful, search, tie_in

BOOKS = all_books((0, 1)) + all_books((1, 0))
FREE = Book(Ties((0, 1)))
WAYS = Book(Ties((1, 0)))
THREE = Book(Ties((0, 1, 2)))


def backs_within(outer, inner):
    return inner.ties.backs + tuple(2 + back for back in outer.ties.backs)


def is_let(outer, inner, three):
    """Whether the book within lets a three, as [10.3] tells it of three guests and their ties."""
    backs = backs_within(outer, inner)
    p, q, r = three
    rows = ((), (backs[p],), (backs[r], backs[q]))
    if max(three) < 2:
        return three not in inner.barred
    if min(three) > 1:
        return tuple(tie - 2 for tie in three) not in outer.barred
    # Just two guests have a tie of inner, and both have the same tie to the third.
    if sum(tie < 2 for tie in three) != 1:
        return False
    x, y, z = next(told for told in permutations(range(3)) if tie_in(backs, rows, told[0], told[1]) < 2)
    return tie_in(backs, rows, x, z) == tie_in(backs, rows, y, z)


def random_let(chance, backs, barred, count, labels):
    """A let company with these labels, or as many of them as can be seated."""
    rows = ()
    for _ in range(count):
        news = lawful(backs, barred, rows)
        if news:
            rows += (chance.choice(news),)
    return company(backs, rows, sorted(chance.sample(labels, len(rows))))


class TestBookWithin(unittest.TestCase):
    def test_all_pairs_of_books_of_two_ties(self):
        for outer, inner in product(BOOKS, repeat=2):
            within = book_within(outer, inner)
            self.assertEqual(within.ties, Ties(backs_within(outer, inner)))
            self.assertEqual(within.barred, tuple(
                three for three in product(range(4), repeat=3) if not is_let(outer, inner, three)))

    def test_by_hand(self):
        within = book_within(Book(Ties((1, 0)), [(0, 0, 0)]), Book(Ties((0, 1)), [(0, 0, 0)]))
        self.assertEqual(within.ties.backs, (0, 1, 3, 2))
        for three, barred in [
            ((0, 0, 0), True), ((0, 0, 1), False), ((2, 2, 2), True), ((2, 2, 3), False), ((0, 0, 2), True), ((0, 2, 2), False),
            ((0, 2, 3), True), ((2, 1, 2), False), ((2, 3, 0), False), ((2, 2, 0), True),
        ]:
            self.assertIs(within.bars(*three), barred, three)


class TestLots(unittest.TestCase):
    def check(self, outer, inner, told):
        found = lots_of(outer, inner, told)
        self.assertIs(type(found), Lots)
        backs = backs_within(outer, inner)
        lots = sorted({
            tuple(sorted({x} | {y for y in told.guests if y != x and told.tie_of(x, y) < 2})) for x in told.guests})
        self.assertEqual(found.lots, tuple(lots))
        self.assertEqual((type(found.lots), type(found.inners)), (tuple, tuple))
        self.assertEqual((found.outer.ties, found.outer.guests), (outer.ties, tuple(lot[0] for lot in lots)))
        self.assertEqual([(part.ties, part.guests) for part in found.inners], [(inner.ties, lot) for lot in lots])
        for x, y in permutations(told.guests, 2):
            tie = tie_in(backs, told.rows, told.guests.index(x), told.guests.index(y))
            lot, other = (next(at for at, part in enumerate(lots) if label in part) for label in (x, y))
            if lot == other:
                self.assertEqual(found.inners[lot].tie_of(x, y), tie)
            else:
                self.assertEqual(found.outer.tie_of(lots[lot][0], lots[other][0]), tie - 2)
        self.assertIsNone(first_barred(outer.ties.backs, set(outer.barred), found.outer.rows))
        for part in found.inners:
            self.assertIsNone(first_barred(inner.ties.backs, set(inner.barred), part.rows))
        self.assertEqual(put_within(outer, inner, found.outer, found.inners), told)
        self.assertEqual(put_within(outer, inner, found.outer, list(found.inners)), told)
        return len(lots)

    def test_random_companies(self):
        chance = random.Random(1)
        counts = {}
        for outer, inner in product(BOOKS, repeat=2):
            within = book_within(outer, inner)
            for _ in range(2):
                told = random_let(chance, within.ties.backs, set(within.barred), chance.randint(0, 6), range(20))
                key = len(told), self.check(outer, inner, told)
                counts[key] = counts.get(key, 0) + 1
        self.assertTrue({(0, 0), (1, 1), (4, 2), (5, 2), (5, 3), (6, 2), (6, 3)} <= set(counts), counts)

    def test_by_hand(self):
        # The lots 2 and 7, then 3, then 5 and 9; the outer tie leads from the lot of 2 to the others.
        told = Company(Ties((0, 1, 3, 2)), (2, 3, 5, 7, 9), ((), (3,), (3, 2), (1, 2, 2), (3, 2, 0, 3)))
        found = lots_of(WAYS, FREE, told)
        self.assertEqual(found.lots, ((2, 7), (3,), (5, 9)))
        self.assertEqual(found.outer, Company(Ties((1, 0)), (2, 3, 5), ((), (1,), (1, 0))))
        self.assertEqual(found.inners, (
            Company(Ties((0, 1)), (2, 7), ((), (1,))), Company(Ties((0, 1)), (3,), ((),)),
            Company(Ties((0, 1)), (5, 9), ((), (0,)))))

    def test_nobody(self):
        nobody = Company(Ties((0, 1, 3, 2)))
        found = lots_of(WAYS, FREE, nobody)
        self.assertEqual((found.lots, found.outer, found.inners), ((), Company(Ties((1, 0))), ()))
        self.assertEqual(put_within(WAYS, FREE, Company(Ties((1, 0))), ()), nobody)

    def test_the_result_keeps_what_it_is_passed(self):
        things = [[1], [2], [3]]
        lots = Lots(*things)
        self.assertEqual(list(vars(lots)), ["lots", "outer", "inners"])
        self.assertTrue(lots.lots is things[0] and lots.outer is things[1] and lots.inners is things[2])


class TestPutWithin(unittest.TestCase):
    def test_random_parts(self):
        chance = random.Random(2)
        for outer, inner in product(BOOKS, repeat=2):
            outside = random_let(chance, outer.ties.backs, set(outer.barred), chance.randint(0, 4), range(0, 40, 10))
            inners = []
            for label in outside.guests:
                part = random_let(chance, inner.ties.backs, set(inner.barred), chance.randint(1, 4), range(label + 1, label + 40))
                # Each guest of the outer company is the least of its lot; labels lie among one another.
                labels = [label] + [99 * other + label for other in part.guests[1:]]
                inners.append(part.renamed(list(zip(part.guests, labels))))
            told = put_within(outer, inner, outside, inners)
            within = book_within(outer, inner)
            self.assertEqual(told.ties, within.ties)
            self.assertEqual(told.guests, tuple(sorted(label for part in inners for label in part.guests)))
            self.assertIsNone(first_barred(within.ties.backs, set(within.barred), told.rows))
            found = lots_of(outer, inner, told)
            self.assertEqual((found.outer, found.inners), (outside, tuple(inners)))
            self.assertEqual(found.lots, tuple(part.guests for part in inners))

    def test_companies_that_are_not_let(self):
        """What is put within may be barred: nothing is asked of the books but their ties."""
        barred = Book(Ties((0, 1)), [(0, 0, 0), (0, 0, 1), (0, 1, 1), (1, 1, 1)])
        told = put_within(barred, barred, chain((0, 1), 0, [1, 2]), [chain((0, 1), 1, [1, 5, 6]), chain((0, 1), 0, [2])])
        self.assertEqual(told.guests, (1, 2, 5, 6))
        self.assertEqual(told.rows, ((), (2,), (1, 2), (1, 2, 1)))

    def test_sixty_guests(self):
        outside = chain((0, 1), 0, list(range(12)))
        inners = [chain((0, 1), 1, list(range(label, 60, 12))) for label in range(12)]
        told = put_within(FREE, FREE, outside, inners)
        self.assertEqual(len(told), 60)
        self.assertEqual((told.tie_of(0, 12), told.tie_of(12, 13), told.tie_of(59, 11)), (1, 2, 1))


class TestRefused(unittest.TestCase):
    def bad(self, error, told, call, *things):
        with self.assertRaises(error) as caught:
            call(*things)
        self.assertEqual(vars(caught.exception), told)

    def test_too_many_comes_first(self):
        told = chain((1, 0), 0, [1, 2, 3])
        for outer, inner, count in [(FREE, THREE, 5), (THREE, WAYS, 5), (THREE, THREE, 6), (Book(Ties((0, 1, 2, 3))), FREE, 6)]:
            self.bad(TooMany, {"count": count}, book_within, outer, inner)
            self.bad(TooMany, {"count": count}, lots_of, outer, inner, told)
            self.bad(TooMany, {"count": count}, put_within, outer, inner, chain((3, 2, 1, 0), 0, [1]), [])
            self.bad(TooMany, {"count": count}, within_verdict, outer, inner)

    def test_lots_of(self):
        for backs in ((0, 1), (1, 0, 2, 3), (0, 1, 2, 3), (0, 1, 2)):
            self.bad(OtherTies, {}, lots_of, WAYS, FREE, chain(backs, 0, [1, 2, 3]))
        # Two ties of inner and one of outer; unlike ties to two guests of one lot.
        for rows in [((), (0,), (2, 1)), ((), (0,), (2, 3)), ((), (2,), (0, 2))]:
            self.bad(NotLet, {"what": "company"}, lots_of, WAYS, FREE, company((0, 1, 3, 2), rows))
        barred = Book(Ties((0, 1)), [(0, 0, 0)])
        self.bad(NotLet, {"what": "company"}, lots_of, WAYS, barred, chain((0, 1, 3, 2), 0, [1, 2, 3]))
        self.assertEqual(lots_of(WAYS, FREE, chain((0, 1, 3, 2), 0, [1, 2, 3])).lots, ((1, 2, 3),))

    def test_put_within(self):
        outside, one, two = chain((1, 0), 0, [1, 4]), chain((0, 1), 0, [1, 2]), chain((0, 1), 0, [4, 7])
        call = put_within
        self.assertEqual(len(call(WAYS, FREE, outside, [one, two])), 4)
        other = chain((1, 0), 0, [9])
        for backs in ((0, 1), (0, 1, 2)):
            self.bad(OtherTies, {}, call, WAYS, FREE, chain(backs, 0, [1, 4]), [other])
        for inners in ([], [one], [other], [one, two, other], (one, two, two)):
            self.bad(BadLots, {"index": 0, "what": "lots"}, call, WAYS, FREE, outside, inners)
        # One by one: the ties, then the label, then guests of an earlier lot.
        nobody, late = Company(Ties((0, 1))), chain((0, 1), 0, [2, 4])
        self.bad(OtherTies, {}, call, WAYS, FREE, outside, [other, nobody])
        self.bad(OtherTies, {}, call, WAYS, FREE, outside, [one, other])
        self.bad(BadLots, {"index": 0, "what": "label"}, call, WAYS, FREE, outside, [nobody, other])
        self.bad(BadLots, {"index": 0, "what": "label"}, call, WAYS, FREE, outside, [chain((0, 1), 0, [0, 1]), two])
        self.bad(BadLots, {"index": 1, "what": "label"}, call, WAYS, FREE, outside, [one, nobody])
        self.bad(BadLots, {"index": 1, "what": "label"}, call, WAYS, FREE, outside, [one, late])
        self.bad(BadLots, {"index": 1, "what": "label"}, call, WAYS, FREE, outside, [one, chain((0, 1), 0, [5])])
        twice = chain((0, 1), 0, [1, 7])
        self.bad(BadLots, {"index": 1, "what": "double"}, call, WAYS, FREE, outside, [twice, two])
        self.bad(BadLots, {"index": 1, "what": "double"}, call, WAYS, FREE, outside, [chain((0, 1), 0, [1, 4]), two])
        three = chain((1, 0), 0, [1, 4, 6])
        self.bad(BadLots, {"index": 1, "what": "double"}, call, WAYS, FREE, three, [twice, two, other])
        self.bad(OtherTies, {}, call, WAYS, FREE, three, [one, two, other])


class TestWithinVerdict(unittest.TestCase):
    def test_all_pairs_of_books_of_two_ties(self):
        kinds = {id(book): search(book.ties.backs, book.barred, 3)[0] for book in BOOKS}
        counts = {}
        for outer, inner in product(BOOKS, repeat=2):
            told = kinds[id(outer)], kinds[id(inner)]
            expected = "clash" if "clash" in told else told[1]
            found, within = within_verdict(outer, inner), book_within(outer, inner)
            self.assertEqual(found.KIND, expected)
            if expected == "strict":
                self.assertEqual(found, Strict())
            elif expected == "joins":
                self.assertIs(type(found), Joins)
                self.assertIsNone(joins_fault(within, found))
            else:
                self.assertIs(type(found), Clash)
                self.assertIsNone(clash_fault(within, found))
            counts[told] = counts.get(told, 0) + 1
        self.assertEqual(len(counts), 9)


if __name__ == "__main__":
    unittest.main()
