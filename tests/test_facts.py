"""[9.10] to [9.12]: facts."""

import random
import unittest
from itertools import combinations, permutations

from joinedguests.book import Book
from joinedguests.errors import BadFact, BadSketch, NoFilling, NotTrue
from joinedguests.facts import Facts
from joinedguests.sketches import Sketch
from joinedguests.ties import Ties
from oracle import all_books, classes

RINGS = Book(Ties((0, 1)), [(0, 0, 0), (1, 1, 1)])
ONE_WAY = Book(Ties((0, 2, 1)), [(1, 1, 2)])


def can_hold(book, labels, rows):
    return next(iter(Sketch(book, labels, rows).all_fillings()), None) is not None


class Plain:
    """Slow second facts."""

    def __init__(self, book, labels):
        self.book, self.labels, self.rows, self.log = book, labels, [], []

    def turned(self, x, y, tie):
        return (x, y, tie) if x < y else (y, x, self.book.ties.backs[tie])

    def about(self, x, y):
        return next((row for row in self.rows if {row[0], row[1]} == {x, y}), None)

    def change(self, word, x, y, tie=None):
        """None, a word of BadFact or the rows of NotTrue; the facts change if it is None."""
        old = self.about(x, y)
        if (old is None) != (word == "hear"):
            return "unknown" if word != "hear" else "known"
        told = [row for row in self.rows if row != old]
        if word != "forget":
            told.append(self.turned(x, y, tie))
            if not can_hold(self.book, self.labels, told):
                left = list(told)
                for row in told:
                    fewer = [other for other in left if other != row]
                    if not can_hold(self.book, self.labels, fewer):
                        left = fewer
                return tuple(left)
        self.rows = told
        self.log.append((word, *(old if word == "forget" else told[-1])))
        return None


class FactsCase(unittest.TestCase):
    def state(self, facts):
        return facts.rows, facts.log, facts.sketch.known, list(facts), len(facts)

    def check(self, facts, plain):
        self.assertEqual(facts.rows, tuple(plain.rows))
        self.assertEqual(facts.log, tuple(plain.log))
        self.assertEqual(facts.sketch, Sketch(plain.book, plain.labels, plain.rows))
        self.assertEqual((list(facts), len(facts)), (plain.rows, len(plain.rows)))

    def refused(self, facts, what, call, *told):
        before = self.state(facts)
        with self.assertRaises(BadFact) as caught:
            call(*told)
        self.assertEqual(caught.exception.what, what, told)
        self.assertEqual(self.state(facts), before)

    def not_true(self, facts, rows, call, *told):
        before = self.state(facts)
        with self.assertRaises(NotTrue) as caught:
            call(*told)
        self.assertEqual(caught.exception.rows, rows)
        self.assertEqual(self.state(facts), before)


class TestFacts(FactsCase):
    def test_beginning(self):
        facts = Facts(RINGS, [1, 2, 5])
        self.assertEqual(self.state(facts), ((), (), (), [], 0))
        self.assertEqual(facts.sketch, Sketch(RINGS, (1, 2, 5)))

    def test_properties_are_read_and_not_assigned(self):
        facts = Facts(RINGS, [1, 2, 3])
        facts.hear(2, 1, 0)
        for name, told in [("rows", ((1, 2, 0),)), ("log", (("hear", 1, 2, 0),)), ("sketch", None)]:
            if told is not None:
                self.assertEqual(getattr(facts, name), told)
            with self.assertRaises(AttributeError):
                setattr(facts, name, ())
        self.assertEqual(facts.sketch, Sketch(RINGS, [1, 2, 3], [(1, 2, 0)]))
        self.assertEqual((facts.rows, facts.log), (((1, 2, 0),), (("hear", 1, 2, 0),)))

    def test_refused_at_the_beginning(self):
        for labels, index, what in [
            (None, 0, "sequence"), ("12", 0, "sequence"), (list(range(7)), 6, "many"), ((1, 1), 1, "label"), ((True,), 0, "label"),
        ]:
            with self.assertRaises(BadSketch) as caught:
                Facts(Book(Ties((0, 1)), classes((0, 1))), labels)
            self.assertEqual((caught.exception.index, caught.exception.what), (index, what))
        with self.assertRaises(NoFilling):
            Facts(RINGS, (0, 1, 2, 3, 4, 5))
        with self.assertRaises(NoFilling):
            Facts(Book(Ties((0, 1)), classes((0, 1))), (0, 1, 2))
        self.assertEqual(len(Facts(Book(Ties((0, 1)), classes((0, 1))), (0, 1))), 0)
        self.assertEqual(len(Facts(RINGS, (0, 1, 2, 3, 4))), 0)

    def test_by_hand(self):
        facts = Facts(ONE_WAY, (1, 2, 5))
        self.assertIsNone(facts.hear(5, 1, 1))
        self.assertIsNone(facts.hear(1, 2, 0))
        self.assertEqual(facts.rows, ((1, 5, 2), (1, 2, 0)))
        self.assertEqual(facts.sketch.known, ((1, 2, 0), (1, 5, 2)))
        self.assertIsNone(facts.put_right(1, 5, 2))
        self.assertEqual(facts.rows, ((1, 2, 0), (1, 5, 2)))
        self.assertIsNone(facts.put_right(2, 1, 1))
        self.assertEqual(facts.rows, ((1, 5, 2), (1, 2, 2)))
        self.assertIsNone(facts.forget(5, 1))
        self.assertEqual(list(facts), [(1, 2, 2)])
        self.assertEqual(facts.log, (
            ("hear", 1, 5, 2), ("hear", 1, 2, 0), ("put_right", 1, 5, 2), ("put_right", 1, 2, 2), ("forget", 1, 5, 2)))

    def test_random_walks(self):
        chance = random.Random(1)
        told = {}
        books = all_books((0, 1)) + all_books((1, 0)) + all_books((0, 2, 1))[::9]
        for _ in range(120):
            book = chance.choice(books)
            labels = sorted(chance.sample(range(30), chance.randint(2, 5 if book.ties.many == 2 else 4)))
            if not can_hold(book, labels, []):
                continue
            facts, plain = Facts(book, labels), Plain(book, labels)
            for _ in range(25):
                x, y = chance.sample(labels, 2)
                word, tie = chance.choice(("hear", "hear", "forget", "put_right")), chance.randrange(book.ties.many)
                args = (x, y) if word == "forget" else (x, y, tie)
                expected = plain.change(word, *args)
                call = getattr(facts, word)
                if expected is None:
                    self.assertIsNone(call(*args))
                elif isinstance(expected, str):
                    self.refused(facts, expected, call, *args)
                else:
                    self.not_true(facts, expected, call, *args)
                    expected = word + " is not true"
                told[expected] = told.get(expected, 0) + 1
                self.check(facts, plain)
        self.assertEqual(
            set(told), {None, "known", "unknown", "hear is not true", "put_right is not true"})
        self.assertGreater(min(told.values()), 20, told)

    def test_not_true_by_hand(self):
        facts = Facts(RINGS, (1, 2, 3, 4))
        for row in ((1, 2, 0), (2, 4, 1), (2, 3, 0)):
            facts.hear(*row)
        # With (1, 3, 0) three guests show one tie; (2, 4, 1) can be left out.
        self.not_true(facts, ((1, 2, 0), (2, 3, 0), (1, 3, 0)), facts.hear, 3, 1, 0)
        facts.hear(1, 3, 1)
        # A guest with tie 0 to three others, who can have no tie 0 among them.
        self.not_true(facts, ((1, 2, 0), (2, 3, 0), (2, 4, 0)), facts.put_right, 4, 2, 0)
        facts.put_right(2, 4, 1)
        self.assertEqual(facts.rows, ((1, 2, 0), (2, 3, 0), (1, 3, 1), (2, 4, 1)))

    def test_facts_left_out_are_looked_at_in_order(self):
        # Both lots of three rows fail with the new one; the one whose rows are younger stays.
        facts = Facts(RINGS, (1, 2, 3, 4))
        for row in ((1, 3, 0), (2, 3, 0), (1, 4, 0), (2, 4, 0)):
            facts.hear(*row)
        self.not_true(facts, ((1, 4, 0), (2, 4, 0), (1, 2, 0)), facts.hear, 1, 2, 0)
        facts = Facts(RINGS, (1, 2, 3, 4))
        for row in ((1, 4, 0), (2, 3, 0), (2, 4, 0), (1, 3, 0)):
            facts.hear(*row)
        self.not_true(facts, ((2, 3, 0), (1, 3, 0), (1, 2, 0)), facts.hear, 1, 2, 0)

    def test_any_order(self):
        chance = random.Random(2)
        rows = [(1, 2, 0), (2, 3, 1), (1, 3, 1), (3, 4, 0)]
        for order in permutations(rows):
            facts = Facts(RINGS, (1, 2, 3, 4))
            for x, y, tie in order:
                facts.hear(*chance.choice(((x, y, tie), (y, x, tie))))
            self.assertEqual(facts.rows, order)
            self.assertEqual(facts.sketch, Sketch(RINGS, (1, 2, 3, 4), rows))
        for _ in range(40):
            book = chance.choice(all_books((0, 2, 1)))
            filling = next(iter(Sketch(book, (2, 3, 5, 9)).all_fillings()), None)
            if filling is None:
                continue
            couples = chance.sample(list(combinations((2, 3, 5, 9), 2)), 6)
            facts = Facts(book, (2, 3, 5, 9))
            for x, y in couples:
                facts.hear(x, y, filling.tie_of(x, y))
            self.assertEqual(list(facts.sketch.all_fillings()), [filling])


class TestRefused(FactsCase):
    def setUp(self):
        self.facts = Facts(RINGS, (0, 1, 4))
        self.facts.hear(0, 1, 0)

    def test_guest(self):
        for label in (2, -1, True, False, None, "0", 1.0, [0]):
            for call in (self.facts.hear, self.facts.put_right):
                self.refused(self.facts, "guest", call, label, 0, 9)
                self.refused(self.facts, "guest", call, 0, label, 9)
                self.refused(self.facts, "guest", call, label, label, 9)
            self.refused(self.facts, "guest", self.facts.forget, label, 0)
            self.refused(self.facts, "guest", self.facts.forget, 0, label)
            self.refused(self.facts, "guest", self.facts.forget, label, label)

    def test_same(self):
        for label in (0, 1, 4):
            self.refused(self.facts, "same", self.facts.hear, label, label, 9)
            self.refused(self.facts, "same", self.facts.put_right, label, label, None)
            self.refused(self.facts, "same", self.facts.forget, label, label)

    def test_tie(self):
        for tie in (2, -1, True, False, None, "0", 0.0, [0]):
            for told in ((0, 1), (1, 0), (0, 4), (4, 1)):
                self.refused(self.facts, "tie", self.facts.hear, *told, tie)
                self.refused(self.facts, "tie", self.facts.put_right, *told, tie)

    def test_known_and_unknown(self):
        for told in ((0, 1), (1, 0)):
            for tie in (0, 1):
                self.refused(self.facts, "known", self.facts.hear, *told, tie)
        for told in ((0, 4), (4, 1)):
            self.refused(self.facts, "unknown", self.facts.forget, *told)
            self.refused(self.facts, "unknown", self.facts.put_right, *told, 0)
        self.facts.forget(1, 0)
        self.refused(self.facts, "unknown", self.facts.forget, 0, 1)
        self.refused(self.facts, "unknown", self.facts.put_right, 0, 1, 1)

    def test_known_ahead_of_not_true(self):
        self.facts.hear(0, 4, 0)
        self.facts.hear(1, 4, 1)
        self.refused(self.facts, "known", self.facts.hear, 1, 4, 0)
        self.not_true(self.facts, ((0, 1, 0), (0, 4, 0), (1, 4, 0)), self.facts.put_right, 1, 4, 0)
        self.facts.forget(1, 4)
        self.refused(self.facts, "unknown", self.facts.put_right, 1, 4, 0)


class TestTrials(FactsCase):
    def setUp(self):
        self.facts = Facts(RINGS, (1, 2, 3, 4))
        self.facts.hear(1, 2, 0)
        self.facts.hear(2, 3, 0)
        self.before = self.state(self.facts)

    def test_a_trial(self):
        with self.facts.trial() as same:
            self.assertIs(same, self.facts)
            same.forget(1, 2)
            same.hear(1, 4, 1)
            same.put_right(2, 3, 1)
            self.assertEqual((len(same), len(same.log)), (2, 5))
        self.assertEqual(self.state(self.facts), self.before)

    def test_errors_end_it(self):
        for call, error in [
            (lambda: self.facts.hear(1, 3, 0), NotTrue), (lambda: self.facts.hear(1, 1, 0), BadFact),
            (lambda: 1 // 0, ZeroDivisionError), (lambda: {}[0], KeyError),
        ]:
            with self.assertRaises(error):
                with self.facts.trial():
                    self.facts.hear(3, 4, 0)
                    call()
            self.assertEqual(self.state(self.facts), self.before)

    def test_trials_within_trials(self):
        with self.facts.trial():
            self.facts.hear(1, 4, 1)
            middle = self.state(self.facts)
            with self.assertRaises(NotTrue):
                with self.facts.trial():
                    self.facts.forget(1, 4)
                    with self.facts.trial():
                        self.facts.forget(1, 2)
                        self.facts.hear(1, 3, 0)
                    self.assertEqual(self.facts.rows, ((1, 2, 0), (2, 3, 0)))
                    self.facts.hear(1, 3, 0)
            self.assertEqual(self.state(self.facts), middle)
        self.assertEqual(self.state(self.facts), self.before)

    def test_an_object_used_twice(self):
        trial = self.facts.trial()
        for _ in range(2):
            with trial as same:
                same.forget(2, 1)
                with trial:
                    same.forget(2, 3)
                self.assertEqual(same.rows, ((2, 3, 0),))
            self.assertEqual(self.state(self.facts), self.before)

    def test_tried(self):
        def call(facts):
            self.assertIs(facts, self.facts)
            facts.hear(3, 4, 1)
            return facts.tried(lambda again: (again.forget(1, 2), again.rows)), facts.rows
        self.assertEqual(
            self.facts.tried(call), ((None, ((2, 3, 0), (3, 4, 1))), ((1, 2, 0), (2, 3, 0), (3, 4, 1))))
        self.assertEqual(self.state(self.facts), self.before)
        with self.assertRaises(NotTrue):
            self.facts.tried(lambda facts: (facts.hear(3, 4, 1), facts.hear(1, 3, 0)))
        self.assertEqual(self.state(self.facts), self.before)


if __name__ == "__main__":
    unittest.main()
