"""[9.1] to [9.5], [9.7]: sketches."""

import random
import unittest
from itertools import combinations, product

from joinedguests.book import Book
from joinedguests.company import Company
from joinedguests.errors import Alike, BadSketch, NoFilling, NoGuest, TooMany
from joinedguests.sketches import Sketch, first_barred_known
from joinedguests.ties import Ties
from oracle import all_books, chain, classes, first_barred

FREE = Book(Ties((0, 1)))
# Two ties, no three guests with like ties: at most five guests.
RINGS = Book(Ties((0, 1)), [(0, 0, 0), (1, 1, 1)])
ONE_WAY = Book(Ties((0, 2, 1)))


def walk(sketch):
    """All fillings: every tie for every couple, in order."""
    backs, barred = sketch.book.ties.backs, set(sketch.book.barred)
    labels = sketch.labels
    couples = list(combinations(labels, 2))
    known = {(x, y): tie for x, y, tie in sketch.known}
    found = []
    for ties in product(range(len(backs)), repeat=len(couples)):
        told = dict(zip(couples, ties))
        if all(told[couple] == known[couple] for couple in known):
            rows = tuple(tuple(backs[told[x, y]] for x in labels if x < y) for y in labels)
            if first_barred(backs, barred, rows) is None:
                found.append(Company(sketch.book.ties, labels, rows))
    return found


def random_sketch(chance, book, count, known):
    """A sketch of so many labels; the rows stand in any order, either way round."""
    labels = sorted(chance.sample(range(50), count))
    rows = []
    for x, y in chance.sample(list(combinations(labels, 2)), min(known, count * (count - 1) // 2)):
        rows.append(chance.choice(((x, y), (y, x))) + (chance.randrange(book.ties.many),))
    return Sketch(book, labels, rows)


def random_sketches(seed, count, most_labels, most_known):
    chance = random.Random(seed)
    books = [all_books((0, 1)), all_books((1, 0)), all_books((0, 2, 1))]
    for at in range(count):
        book = chance.choice(books[at % 3])
        most = min(most_labels, 5 if book.ties.many == 2 else 4)
        yield chance, random_sketch(chance, book, chance.randint(0, most), chance.randint(0, most_known))


class TestMaking(unittest.TestCase):
    def bad(self, index, what, *told, book=FREE):
        with self.assertRaises(BadSketch) as caught:
            Sketch(book, *told)
        self.assertEqual((caught.exception.index, caught.exception.what), (index, what), told)

    def test_attributes(self):
        rows = [[7, 2, 1], (2, 4, 0), (7, 4, 2)]
        labels = [2, 4, 7]
        sketch = Sketch(ONE_WAY, labels, rows)
        labels.append(9)
        rows.clear()
        self.assertEqual((sketch.book, sketch.labels), (ONE_WAY, (2, 4, 7)))
        self.assertEqual(sketch.known, ((2, 4, 0), (2, 7, 2), (4, 7, 1)))
        self.assertEqual((Sketch(FREE, ()).labels, Sketch(FREE, []).known), ((), ()))
        self.assertEqual(len(Sketch(FREE, (0, 1, 2, 3, 4, 10 ** 9)).labels), 6)

    def test_sequence(self):
        for thing in (None, 0, "", {}, {1}, iter([])):
            self.bad(0, "sequence", thing)
            self.bad(0, "sequence", thing, thing)
            self.bad(1, "sequence", (1, 2), thing)
            self.bad(1, "sequence", (2, 1), thing)
            self.bad(1, "sequence", list(range(9)), thing)

    def test_many(self):
        self.bad(6, "many", list(range(7)))
        self.bad(6, "many", [None] * 7, [None])
        self.bad(6, "many", (1, 1, 1, 1, 1, 1, 1))

    def test_label(self):
        for label in (None, True, False, "1", -1, 10 ** 9 + 1, 1.0, (1,)):
            self.bad(0, "label", (label, 3), [None])
            self.bad(1, "label", (0, label, 3))
        self.bad(2, "label", (1, 5, 5))
        self.bad(1, "label", (5, 4, None), [None])

    def test_row(self):
        for row in (None, 0, "123", (1, 2), (1, 2, 0, 0), (), {1: 2}, [1, 2]):
            self.bad(0, "row", (1, 2), [row, None])
            self.bad(1, "row", (1, 2), ((1, 2, 0), row))

    def test_couple(self):
        for label in (0, 3, None, True, "1", 1.0, [1], 2):
            self.bad(0, "couple", (1, 2), [(label, 2, 9)])
            self.bad(1, "couple", (0, 1, 2), [(0, 1, 0), (2, label if label not in (0, 1) else 5, 9)])
        self.bad(0, "couple", (1, 2), [(2, 2, 0)])
        self.bad(0, "couple", (0, 1), [(True, 0, 0)])
        self.bad(0, "couple", (0, 1), [(1, False, 0)])

    def test_tie(self):
        for tie in (2, -1, True, False, None, "0", 0.0, [0]):
            self.bad(0, "tie", (1, 2), [(1, 2, tie)])
            self.bad(1, "tie", (1, 2), [(1, 2, 0), [2, 1, tie]])

    def test_twice(self):
        self.bad(1, "twice", (1, 2), [(1, 2, 0), (1, 2, 0)])
        self.bad(2, "twice", (1, 2, 3), [(1, 2, 0), (1, 3, 0), (2, 1, 0), None])
        self.bad(1, "twice", (1, 2), [(2, 1, 1), (1, 2, 2)], book=ONE_WAY)

    def test_the_first_one(self):
        self.bad(1, "label", (5, 5), [(1, 2, 3)])
        self.bad(0, "couple", (1, 2), [(1, 1, 9), None])
        self.bad(0, "tie", (1, 2), [(1, 2, 9), (1, 2, 0), (1, 2, 0)])

    def test_equality(self):
        sketch = Sketch(ONE_WAY, (1, 2, 3), [(1, 2, 1), (2, 3, 0)])
        self.assertEqual(sketch, Sketch(Book(Ties((0, 2, 1))), [1, 2, 3], ([3, 2, 0], [2, 1, 2])))
        for unlike in (
            Sketch(ONE_WAY, (1, 2, 3), [(1, 2, 2), (2, 3, 0)]), Sketch(ONE_WAY, (1, 2, 3), [(1, 2, 1)]),
            Sketch(ONE_WAY, (1, 2, 3, 4), [(1, 2, 1), (2, 3, 0)]),
            Sketch(Book(Ties((0, 2, 1)), [(0, 0, 0)]), (1, 2, 3), [(1, 2, 1), (2, 3, 0)]),
            Sketch(Book(Ties((0, 1, 2))), (1, 2, 3), [(1, 2, 1), (2, 3, 0)]), None, (1, 2, 3),
        ):
            self.assertFalse(sketch == unlike)


class TestReading(unittest.TestCase):
    def test_tie_of_web_and_unknown(self):
        for chance, sketch in random_sketches(1, 200, 6, 9):
            backs = sketch.book.ties.backs
            known = {(x, y): tie for x, y, tie in sketch.known}
            self.assertEqual(sketch.web, tuple(sorted(known)))
            couples = list(combinations(sketch.labels, 2))
            self.assertEqual(sketch.unknown, tuple(couple for couple in couples if couple not in known))
            for x, y in couples:
                tie = known.get((x, y))
                self.assertEqual(sketch.tie_of(x, y), tie)
                self.assertEqual(sketch.tie_of(y, x), None if tie is None else backs[tie])

    def test_tie_of_refused(self):
        sketch = Sketch(FREE, (0, 1, 4), [(0, 1, 0)])
        for call in (sketch.tie_of, sketch.possible_ties, sketch.two_fillings):
            for label in (2, -1, True, False, None, "0", 1.0, [0]):
                for told in ((label, 0), (0, label), (label, None), (label, label)):
                    with self.assertRaises(NoGuest) as caught:
                        call(*told)
                    self.assertIs(caught.exception.label, label)
            for label in (0, 1, 4):
                with self.assertRaises(Alike) as caught:
                    call(label, label)
                self.assertEqual(caught.exception.label, label)

    def test_with_known_and_only(self):
        sketch = Sketch(ONE_WAY, (1, 3, 5), [(3, 5, 0)])
        more = sketch.with_known(5, 1, 1)
        self.assertEqual(more, Sketch(ONE_WAY, (1, 3, 5), [(1, 5, 2), (3, 5, 0)]))
        self.assertEqual(sketch.known, ((3, 5, 0),))
        self.assertEqual(more.only([(5, 3, 1)]), Sketch(ONE_WAY, (1, 3, 5), [(3, 5, 2)]))
        self.assertEqual(more.only(()), Sketch(ONE_WAY, (1, 3, 5)))
        for told, what in [((1, 2, 0), "couple"), ((1, 1, 0), "couple"), ((1, 3, 3), "tie"), ((5, 1, 1), "twice")]:
            with self.assertRaises(BadSketch) as caught:
                more.with_known(*told)
            self.assertEqual((caught.exception.index, caught.exception.what), (2, what))
        for rows, index, what in [(None, 1, "sequence"), ([(1, 3, 0), (1, 3)], 1, "row"), ([(1, 3, True)], 0, "tie")]:
            with self.assertRaises(BadSketch) as caught:
                more.only(rows)
            self.assertEqual((caught.exception.index, caught.exception.what), (index, what))

    def test_first_barred_known(self):
        seen = {True: 0, False: 0}
        for _, sketch in random_sketches(2, 500, 6, 10):
            backs, barred = sketch.book.ties.backs, set(sketch.book.barred)
            known = {(x, y): tie for x, y, tie in sketch.known}
            expected = None
            for x, y, z in combinations(sketch.labels, 3):
                if (x, y) in known and (y, z) in known and (x, z) in known:
                    rows = ((), (backs[known[x, y]],), (backs[known[x, z]], backs[known[y, z]]))
                    if first_barred(backs, barred, rows):
                        expected = (x, y, z)
                        break
            self.assertEqual(first_barred_known(sketch), expected)
            seen[expected is None] += 1
        self.assertGreater(min(seen.values()), 50)


class TestFillings(unittest.TestCase):
    def test_against_a_walk(self):
        seen = {True: 0, False: 0}
        for _, sketch in random_sketches(3, 160, 5, 7):
            expected = walk(sketch)
            self.assertEqual(list(sketch.all_fillings()), expected)
            seen[len(expected) > 0] += 1
            if len(sketch.unknown) <= 8:
                self.assertEqual(sketch.how_many_fillings(), len(expected))
            self.check_ties(sketch, expected)
        self.assertGreater(min(seen.values()), 30)

    def check_ties(self, sketch, fillings):
        """Check possible ties, sure rows and two fillings against all fillings."""
        many = sketch.book.ties.many
        sure = []
        for x, y in combinations(sketch.labels, 2):
            for a, b in ((x, y), (y, x)):
                firsts = [next((told for told in fillings if told.tie_of(a, b) == tie), None) for tie in range(many)]
                possible = tuple(tie for tie in range(many) if firsts[tie] is not None)
                self.assertEqual(sketch.possible_ties(a, b), possible)
                if not possible:
                    with self.assertRaises(NoFilling):
                        sketch.two_fillings(a, b)
                elif len(possible) == 1:
                    self.assertIsNone(sketch.two_fillings(a, b))
                else:
                    self.assertEqual(sketch.two_fillings(a, b), (firsts[possible[0]], firsts[possible[1]]))
            if (x, y) in sketch.unknown and len(sketch.possible_ties(x, y)) == 1:
                sure.append((x, y, sketch.possible_ties(x, y)[0]))
        if not fillings:
            with self.assertRaises(NoFilling):
                sketch.sure_rows()
        else:
            self.assertEqual(sketch.sure_rows(), tuple(sure))

    def test_bounds(self):
        """Six labels with two ties, five with three, four with four."""
        chance = random.Random(4)
        for backs, count in (((0, 1), 6), ((1, 0), 6), ((0, 2, 1), 5), ((0, 1, 2), 5), ((0, 1, 3, 2), 4)):
            kinds = classes(backs)
            for known in (0, 4, 6):
                book = Book(Ties(backs), chance.sample(kinds, len(kinds) // 2))
                sketch = random_sketch(chance, book, count, known)
                fillings = list(sketch.all_fillings())
                if count < 6:
                    self.assertEqual(fillings, walk(sketch))
                self.check_ties(sketch, fillings)
                self.check_lots(sketch)

    def test_six_guests_of_rings(self):
        # Of six guests three always show one tie.
        sketch = Sketch(RINGS, (0, 1, 2, 3, 4, 5))
        self.assertEqual(list(sketch.all_fillings()), [])
        self.assertEqual(sketch.possible_ties(0, 5), ())
        self.assertEqual(sketch.failing_lots(), ((),))
        five = Sketch(RINGS, (0, 1, 2, 3, 4), [(0, 1, 0), (0, 2, 0)])
        self.assertEqual(five.how_many_fillings(), 2)
        self.assertEqual(five.sure_rows(), ((0, 3, 1), (0, 4, 1), (1, 2, 1), (3, 4, 0)))

    def test_no_labels(self):
        for book in (FREE, RINGS, ONE_WAY, Book(Ties((0, 1)), classes((0, 1)))):
            sketch = Sketch(book, ())
            self.assertEqual(list(sketch.all_fillings()), [Company(book.ties)])
            self.assertEqual((sketch.how_many_fillings(), sketch.sure_rows(), sketch.failing_lots()), (1, (), ()))
            self.assertEqual((sketch.web, sketch.unknown), ((), ()))
            self.assertIsNone(sketch.filling_fault(Company(book.ties)))

    def test_order_by_hand(self):
        sketch = Sketch(Book(Ties((1, 0))), (2, 5, 7), [(7, 2, 0)])
        # The ties from 2 to 5, from 2 to 7, from 5 to 7.
        told = [(c.tie_of(2, 5), c.tie_of(2, 7), c.tie_of(5, 7)) for c in sketch.all_fillings()]
        self.assertEqual(told, [(0, 1, 0), (0, 1, 1), (1, 1, 0), (1, 1, 1)])

    def test_too_many(self):
        labels = (0, 1, 2, 3, 4)
        couples = list(combinations(labels, 2))
        for unknown in (8, 9, 10):
            sketch = Sketch(FREE, labels, [(x, y, 0) for x, y in couples[unknown:]])
            if unknown == 8:
                self.assertEqual(sketch.how_many_fillings(), 256)
                continue
            with self.assertRaises(TooMany) as caught:
                sketch.how_many_fillings()
            self.assertEqual(caught.exception.count, unknown)
            self.assertEqual(len(list(sketch.all_fillings())), 2 ** unknown)
        with self.assertRaises(TooMany) as caught:
            Sketch(RINGS, (0, 1, 2, 3, 4, 5)).how_many_fillings()
        self.assertEqual(caught.exception.count, 15)

    def test_filling_fault(self):
        for _, sketch in random_sketches(5, 60, 4, 4):
            fillings = walk(sketch)
            for told in walk(Sketch(Book(sketch.book.ties), sketch.labels)):
                known = all(told.tie_of(x, y) == tie for x, y, tie in sketch.known)
                expected = None if told in fillings else "barred" if known else "known"
                self.assertEqual(sketch.filling_fault(told), expected)

    def test_filling_fault_guests(self):
        sketch = Sketch(RINGS, (1, 2, 4), [(1, 2, 0)])
        self.assertIsNone(sketch.filling_fault(Company(Ties((0, 1)), (1, 2, 4), ((), (0,), (1, 1)))))
        for told in (
            Company(Ties((0, 1))), chain((0, 1), 0, [1, 2]), chain((0, 1), 1, [1, 2, 5]), chain((0, 1), 0, [1, 2, 4, 5]),
            chain((1, 0), 0, [1, 2, 4]), chain((0, 1, 2), 0, [1, 2, 4]), chain((0, 1, 2), 1, [1, 2, 4]),
        ):
            self.assertEqual(sketch.filling_fault(told), "guests")
        self.assertEqual(sketch.filling_fault(chain((0, 1), 1, [1, 2, 4])), "known")
        self.assertEqual(sketch.filling_fault(chain((0, 1), 0, [1, 2, 4])), "barred")

    def check_lots(self, sketch):
        """Check failing_lots: all lots are looked at, from the small ones on."""
        if len(sketch.known) > 6:
            return None
        failing = []
        for count in range(len(sketch.known) + 1):
            for lot in combinations(sketch.known, count):
                if not any(set(less) <= set(lot) for less in failing):
                    if next(iter(Sketch(sketch.book, sketch.labels, lot).all_fillings()), None) is None:
                        failing.append(lot)
        self.assertEqual(sketch.failing_lots(), tuple(failing))
        return failing

    def test_failing_lots(self):
        seen = {}
        for _, sketch in random_sketches(6, 300, 5, 6):
            failing = self.check_lots(sketch)
            if failing is not None:
                for lot in failing:
                    self.assertEqual(walk(sketch.only(lot)), [])
                    for row in lot:
                        self.assertNotEqual(walk(sketch.only([other for other in lot if other != row])), [])
                seen[len(failing)] = seen.get(len(failing), 0) + 1
        self.assertTrue({0, 1, 2} <= set(seen), seen)

    def test_failing_lots_by_hand(self):
        sketch = Sketch(RINGS, (1, 2, 3, 4), [(2, 1, 0), (2, 3, 0), (3, 1, 0), (1, 4, 0), (4, 3, 0)])
        self.assertEqual(sketch.failing_lots(), (
            ((1, 2, 0), (1, 3, 0), (1, 4, 0)), ((1, 2, 0), (1, 3, 0), (2, 3, 0)), ((1, 3, 0), (1, 4, 0), (3, 4, 0)),
            ((1, 3, 0), (2, 3, 0), (3, 4, 0))))
        everything = Book(Ties((0, 1)), classes((0, 1)))
        self.assertEqual(Sketch(everything, (1, 2, 3), [(1, 2, 0)]).failing_lots(), ((),))
        self.assertEqual(Sketch(everything, (1, 2), [(1, 2, 0)]).failing_lots(), ())

    def test_failing_lots_of_too_many_rows(self):
        couples = list(combinations(range(5), 2))
        for known in (6, 7, 10):
            sketch = Sketch(FREE, range_of(5), [(x, y, 0) for x, y in couples[:known]])
            if known == 6:
                self.assertEqual(sketch.failing_lots(), ())
                continue
            with self.assertRaises(TooMany) as caught:
                sketch.failing_lots()
            self.assertEqual(caught.exception.count, known)


def range_of(count):
    return list(range(count))


if __name__ == "__main__":
    unittest.main()
