"""[9.6], [9.8], [9.9]: webs peeled, sketches filled by peeling, and sketches that can not be filled."""

import random
import unittest
from itertools import combinations, permutations

from joinedguests.book import Book
from joinedguests.company import Company
from joinedguests.errors import BadRing, BadSketch, KnownBarred, NoOrder, NotStrict
from joinedguests.peeling import Order, Ring, clumps_book, fill_by_peeling, peel, ring_sketch, unfillable
from joinedguests.sketches import Sketch, first_barred_known
from joinedguests.ties import Ties
from joinedguests.verdict import joins_strictly
from oracle import BACKS, all_books

CLUMPS = Book(Ties((0, 1)), [(0, 0, 1)])
FREE = Book(Ties((0, 1)))


def plain_order(labels, web):
    """The order in which the web is peeled, as far as it can be."""
    left, order = list(labels), []
    while True:
        free = [
            x for x in left
            if all(frozenset(pair) in web for pair in combinations([y for y in left if frozenset((x, y)) in web], 2))]
        if not free:
            return order
        order.append(free[0])
        left.remove(free[0])


def plain_rings(labels, web):
    """All rings without other known couples, as they are written, fewest guests first, then ascending."""
    found = []
    for count in range(4, len(labels) + 1):
        for ring in permutations(labels, count):
            if ring[0] == min(ring) and ring[1] < ring[-1]:
                steps = {frozenset((ring[k], ring[(k + 1) % count])) for k in range(count)}
                if all((frozenset(pair) in web) == (frozenset(pair) in steps) for pair in combinations(ring, 2)):
                    found.append(ring)
    return found


def sketch_of(web, labels, book=FREE, ties=None):
    couples = [couple for couple in combinations(labels, 2) if frozenset(couple) in web]
    return Sketch(book, labels, [(x, y, 0 if ties is None else ties[x, y]) for x, y in couples])


def random_web(chance, labels):
    rate = chance.random()
    return {frozenset(couple) for couple in combinations(labels, 2) if chance.random() < rate}


class TestPeel(unittest.TestCase):
    def check(self, labels, web):
        """Check what peel tells of a web; return its class."""
        found, order = peel(sketch_of(web, labels)), plain_order(labels, web)
        self.assertIs(type(found.labels), tuple)
        if len(order) == len(labels):
            self.assertIs(type(found), Order)
            self.assertEqual(found.labels, tuple(order))
            self.assertEqual(plain_rings(labels, web), [])
        else:
            self.assertIs(type(found), Ring)
            self.assertEqual(found.labels, plain_rings(labels, web)[0])
        return type(found)

    def test_all_webs_of_at_most_five_guests(self):
        rings = 0
        for count in range(6):
            labels = [2 * k + (k > 1) for k in range(count)]
            couples = list(combinations(labels, 2))
            for chosen in range(2 ** len(couples)):
                web = {frozenset(couple) for at, couple in enumerate(couples) if chosen >> at & 1}
                rings += self.check(labels, web) is Ring
        self.assertTrue(rings > 100, rings)

    def test_webs_of_six_guests(self):
        chance = random.Random(1)
        kinds = []
        for _ in range(250):
            labels = sorted(chance.sample(range(30), 6))
            kinds.append(self.check(labels, random_web(chance, labels)))
        self.assertTrue(min(kinds.count(Ring), kinds.count(Order)) > 50)
        # A ring of six, one of five with a guest outside, and all rings of six in some order.
        for order in [(1, 2, 3, 4, 5, 6), (1, 4, 2, 6, 3, 5), (1, 6, 2, 5, 3, 4)]:
            web = {frozenset((order[k], order[(k + 1) % 6])) for k in range(6)}
            self.assertIs(self.check([1, 2, 3, 4, 5, 6], web), Ring)
            web = {frozenset((order[k], order[(k + 1) % 5])) for k in range(5)} | {frozenset((order[5], order[0]))}
            self.assertIs(self.check([1, 2, 3, 4, 5, 6], web), Ring)

    def test_by_hand(self):
        self.assertEqual(peel(Sketch(FREE, ())), Order(()))
        self.assertEqual(peel(Sketch(FREE, (4,))), Order((4,)))
        self.assertEqual(peel(Sketch(FREE, (3, 7, 9))), Order((3, 7, 9)))
        # A star: its middle, 1, is peeled when one other guest is left.
        star = Sketch(FREE, (1, 2, 3, 4), [(1, 2, 0), (1, 3, 1), (1, 4, 0)])
        self.assertEqual(peel(star), Order((2, 3, 1, 4)))
        ring = Sketch(FREE, (1, 2, 3, 4), [(1, 3, 0), (3, 2, 1), (2, 4, 0), (4, 1, 0)])
        self.assertEqual(peel(ring), Ring((1, 3, 2, 4)))
        self.assertEqual(peel(ring.with_known(1, 2, 0)), Order((3, 1, 2, 4)))

    def test_the_ties_and_the_book_mean_nothing(self):
        rows = [(1, 2, 0), (2, 3, 0), (1, 3, 1)]
        self.assertEqual(peel(Sketch(CLUMPS, (1, 2, 3), rows)), Order((1, 2, 3)))
        clash = Book(Ties((0, 1)), [(0, 0, 0), (1, 1, 1)])
        self.assertEqual(peel(Sketch(clash, (1, 2, 3), rows)), Order((1, 2, 3)))

    def test_the_ring_with_the_fewest_guests(self):
        # The ring 1, 2, 3, 4, 5 and the ring 1, 5, 6, 2 share the couples 1-2 and 1-5.
        web = {frozenset(pair) for pair in [(1, 2), (2, 3), (3, 4), (4, 5), (5, 1), (5, 6), (6, 2)]}
        self.assertEqual(peel(sketch_of(web, (1, 2, 3, 4, 5, 6))), Ring((1, 2, 6, 5)))

    def test_results(self):
        for cls, other in ((Order, Ring), (Ring, Order)):
            self.assertEqual(cls((1, 2)), cls((1, 2)))
            for thing in (cls((2, 1)), cls((1,)), other((1, 2)), (1, 2), None, cls((True, 2))):
                self.assertNotEqual(cls((1, 2)), thing)
            labels = [3]
            self.assertIs(cls(labels).labels, labels)
            self.assertEqual(list(vars(cls(labels))), ["labels"])


class TestFillByPeeling(unittest.TestCase):
    def strict_books(self):
        books = all_books((0, 1)) + all_books((1, 0)) + all_books((0, 2, 1))[::7] + all_books((0, 1, 2))[::41]
        books += [Book(Ties(backs)) for backs in BACKS]
        return [book for book in books if joins_strictly(book)]

    def put_down(self, sketch, order):
        """The filling by [4.4]: each guest gets the least fine tie to those who are not known to it."""
        backs, barred = sketch.book.ties.backs, set(sketch.book.barred)
        ties = {}
        for x, y, tie in sketch.known:
            ties[x, y], ties[y, x] = tie, backs[tie]
        down = []
        for y in order[::-1]:
            known = {x: ties[x, y] for x in down if (x, y) in ties}
            for x in sorted(down):
                if x not in known:
                    fine = [
                        t for t in range(len(backs)) if not any((ties[x, a], known[a], t) in barred for a in known)]
                    known[x] = fine[0]
                    ties[x, y], ties[y, x] = fine[0], backs[fine[0]]
            down.append(y)
        return Company(sketch.book.ties, sorted(down), [[ties[y, x] for x in sorted(down) if x < y] for y in sorted(down)])

    def test_random_sketches(self):
        chance = random.Random(2)
        counts = {}
        for book in self.strict_books() * 40:
            labels = sorted(chance.sample(range(20), chance.randint(0, 6 if book.ties.many == 2 else 4)))
            web = random_web(chance, labels)
            ties = {couple: chance.randrange(book.ties.many) for couple in combinations(labels, 2)}
            sketch = sketch_of(web, labels, book, ties)
            order = plain_order(labels, web)
            what = "filled"
            if len(order) < len(labels):
                what = "ring"
                with self.assertRaises(NoOrder) as caught:
                    fill_by_peeling(sketch)
                self.assertEqual(caught.exception.labels, plain_rings(labels, web)[0])
            elif first_barred_known(sketch) is not None:
                what = "barred"
                with self.assertRaises(KnownBarred) as caught:
                    fill_by_peeling(sketch)
                self.assertEqual(caught.exception.labels, first_barred_known(sketch))
            else:
                found = fill_by_peeling(sketch)
                self.assertIsNone(sketch.filling_fault(found))
                self.assertEqual(found, self.put_down(sketch, order))
            counts[what] = counts.get(what, 0) + 1
        self.assertEqual(set(counts), {"filled", "ring", "barred"})
        self.assertTrue(min(counts.values()) > 20, counts)

    def test_nobody(self):
        self.assertEqual(fill_by_peeling(Sketch(CLUMPS, ())), Company(Ties((0, 1))))

    def test_by_hand(self):
        # 4 is put down first, then 3, 2 and 1; unknown ties are the least fine ones.
        found = fill_by_peeling(Sketch(CLUMPS, (1, 2, 3, 4), [(1, 2, 0), (2, 3, 1)]))
        self.assertEqual(found, Company(Ties((0, 1)), (1, 2, 3, 4), ((), (0,), (1, 1), (1, 1, 0))))

    def test_refused_in_order(self):
        ring = [(1, 2, 0), (2, 3, 0), (3, 4, 0), (1, 4, 0)]
        barred = [(5, 6, 0), (4, 5, 0), (4, 6, 1)]
        labels = (1, 2, 3, 4, 5, 6)
        for book in (Book(Ties((0, 1)), [(0, 0, 1), (0, 0, 0)]), Book(Ties((0, 1)), [(0, 0, 0), (1, 1, 1)])):
            with self.assertRaises(NotStrict):
                fill_by_peeling(Sketch(book, labels, ring + barred))
            with self.assertRaises(NotStrict):
                fill_by_peeling(Sketch(book, ()))
        with self.assertRaises(NoOrder) as caught:
            fill_by_peeling(Sketch(CLUMPS, labels, ring + barred))
        self.assertEqual(caught.exception.labels, (1, 2, 3, 4))
        with self.assertRaises(KnownBarred) as caught:
            fill_by_peeling(Sketch(CLUMPS, labels, ring[:3] + barred))
        self.assertEqual(caught.exception.labels, (4, 5, 6))


class TestUnfillable(unittest.TestCase):
    def test_clumps_book(self):
        self.assertEqual(clumps_book(), CLUMPS)
        self.assertEqual(clumps_book().ties.backs, (0, 1))

    def check(self, labels, couples):
        """Check unfillable of a web; return whether there is a sketch."""
        web = {frozenset(couple) for couple in couples}
        found = unfillable(labels, couples)
        if len(plain_order(labels, web)) == len(labels):
            self.assertIsNone(found)
            return False
        ring = plain_rings(labels, web)[0]
        zeros = {frozenset(pair) for pair in zip(ring, ring[1:])}
        rows = [(x, y, 0 if frozenset((x, y)) in zeros else 1) for x, y in couples]
        self.assertEqual(found, Sketch(CLUMPS, labels, rows))
        self.assertIsNone(first_barred_known(found))
        self.assertEqual(list(found.all_fillings()), [])
        return True

    def test_all_webs_of_five_guests(self):
        chance = random.Random(3)
        found = 0
        labels = (1, 3, 4, 7, 9)
        pairs = list(combinations(labels, 2))
        for chosen in range(2 ** len(pairs)):
            couples = [couple[::chance.choice((1, -1))] for at, couple in enumerate(pairs) if chosen >> at & 1]
            chance.shuffle(couples)
            found += self.check(labels, couples)
        self.assertTrue(found > 100, found)

    def test_webs_of_other_sizes(self):
        chance = random.Random(4)
        found = 0
        for _ in range(600):
            labels = sorted(chance.sample(range(30), chance.choice((0, 1, 2, 3, 4, 6, 6, 6))))
            couples = [tuple(sorted(couple)) for couple in random_web(chance, labels)]
            found += self.check(labels, [chance.choice((list, tuple))(couple) for couple in couples])
        self.assertTrue(found > 30, found)

    def test_errors_are_those_of_the_sketch(self):
        for labels, couples, index, what in [
            ("12", [], 0, "sequence"), (None, None, 0, "sequence"), ((1, 2), None, 1, "sequence"),
            ((1, 2), "12", 1, "sequence"), ((1, 2), {(1, 2)}, 1, "sequence"), (range(3), [], 0, "sequence"),
            ([1, 2, 3, 4, 5, 6, 7], [None], 6, "many"), ((1, 1), [None], 1, "label"), ((1, True), [None], 1, "label"),
            ((2, 1), [], 1, "label"), ((1, 2), [None], 0, "row"), ((1, 2), [(1, 2), (1, 2, 0)], 1, "row"),
            ((1, 2), ["12"], 0, "row"), ((1, 2), [(1,)], 0, "row"), ((1, 2), [()], 0, "row"),
            ((1, 2), [(1, 3)], 0, "couple"), ((1, 2), [(1, 1)], 0, "couple"), ((1, 2), [(True, 2)], 0, "couple"),
            ((1, 2), [(None, [])], 0, "couple"), ((1, 2), [(1, 2), (2, 1)], 1, "twice"),
            ((1, 2, 3, 4), [(1, 2), (2, 3), (3, 4), (4, 1), (4, 1)], 4, "twice"),
        ]:
            with self.assertRaises(BadSketch) as caught:
                unfillable(labels, couples)
            self.assertEqual((caught.exception.index, caught.exception.what), (index, what), (labels, couples))

    def test_ring_sketches(self):
        for n in (4, 5, 6):
            rows = [(k, k + 1, 0) for k in range(n - 1)] + [(0, n - 1, 1)]
            self.assertEqual(ring_sketch(n), Sketch(CLUMPS, list(range(n)), rows))
            self.assertEqual(peel(ring_sketch(n)), Ring(tuple(range(n))))
            self.assertEqual(list(ring_sketch(n).all_fillings()), [])

    def test_bad_rings(self):
        for n in (3, 7, 0, -4, True, None, "4", 4.0, [4]):
            with self.assertRaises(BadRing) as caught:
                ring_sketch(n)
            self.assertIs(caught.exception.count, n)

    def test_books_without_rings(self):
        """Each sketch of a web that can be peeled has a filling if no three is known and barred."""
        chance = random.Random(5)
        filled = 0
        for _ in range(200):
            labels = sorted(chance.sample(range(9), 5))
            web = random_web(chance, labels)
            ties = {couple: chance.randrange(2) for couple in combinations(labels, 2)}
            sketch = sketch_of(web, labels, CLUMPS, ties)
            if isinstance(peel(sketch), Order) and first_barred_known(sketch) is None:
                self.assertTrue(any(True for _ in sketch.all_fillings()))
                filled += 1
        self.assertTrue(filled > 30)


if __name__ == "__main__":
    unittest.main()
