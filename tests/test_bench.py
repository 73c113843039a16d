"""[10.15], [10.16]: the bench."""

import random
import unittest

from joinedguests.bench import Bench
from joinedguests.book import Book
from joinedguests.clashjudge import clash_fault, joins_fault
from joinedguests.errors import BadChange, NoNumber, Rests
from joinedguests.ties import Ties
from joinedguests.verdict import verdict_of
from oracle import all_books, classes, closed

START = Book(Ties((0, 1)), [(0, 0, 1)])


class Plain:
    """A slow second bench: the barred threes are found anew from the standing changes."""

    def __init__(self, book):
        self.start, self.backs = set(book.barred), book.ties.backs
        self.standing, self.log, self.last = [], [], 0

    def behind(self, changes):
        """The barred threes behind these changes, and the place of the first one that is needless."""
        barred = set(self.start)
        for place, (word, *three) in enumerate(changes):
            readings = closed(self.backs, [tuple(three)])
            if (word == "bar") == (tuple(three) in barred):
                return None, place
            barred = barred | readings if word == "bar" else barred - readings
        return barred, None

    def make(self, change):
        _, needless = self.behind([told for _, told in self.standing] + [change])
        if needless is not None:
            return "needless"
        self.last += 1
        self.standing.append((self.last, change))
        self.log.append(("make", self.last, change))
        return self.last

    def take_back(self, number):
        others = [pair for pair in self.standing if pair[0] != number]
        if len(others) == len(self.standing):
            return "no number"
        _, needless = self.behind([told for _, told in others])
        if needless is not None:
            return others[needless][0]
        self.log.append(("back", number, dict(self.standing)[number]))
        self.standing = others
        return None


class BenchCase(unittest.TestCase):
    def check(self, bench, plain):
        self.assertEqual(bench.standing, tuple(plain.standing))
        self.assertEqual(bench.log, tuple(plain.log))
        self.assertEqual(list(bench), plain.standing)
        self.assertEqual(len(bench), len(plain.standing))
        barred, _ = plain.behind([change for _, change in plain.standing])
        self.assertEqual(bench.book, Book(bench.start.ties, sorted(barred)))
        self.assertEqual(set(bench.start.barred), plain.start)

    def state(self, bench):
        return bench.start, bench.book, bench.standing, bench.log, list(bench), len(bench)

    def refused(self, bench, error, call, **fields):
        before = self.state(bench)
        with self.assertRaises(error) as caught:
            call()
        self.assertEqual(vars(caught.exception), fields)
        self.assertEqual(self.state(bench), before)


class TestBench(BenchCase):
    def test_beginning(self):
        bench = Bench(START)
        self.assertIs(bench.start, START)
        self.assertEqual((bench.book, bench.standing, bench.log, len(bench), list(bench)), (START, (), (), 0, []))

    def test_by_hand(self):
        bench = Bench(START)
        self.assertEqual(bench.make(["bar", 0, 0, 0]), 1)
        self.assertEqual(bench.make(("let", 1, 0, 0)), 2)
        self.assertEqual(bench.standing, ((1, ("bar", 0, 0, 0)), (2, ("let", 1, 0, 0))))
        self.assertEqual(bench.book, Book(START.ties, [(0, 0, 0)]))
        self.assertIsNone(bench.take_back(1))
        self.assertEqual(bench.book, Book(START.ties))
        self.assertEqual(list(bench), [(2, ("let", 1, 0, 0))])
        # Numbers are never given again.
        self.assertEqual(bench.make(("bar", 1, 1, 1)), 3)
        self.assertEqual(bench.log, (
            ("make", 1, ("bar", 0, 0, 0)), ("make", 2, ("let", 1, 0, 0)), ("back", 1, ("bar", 0, 0, 0)),
            ("make", 3, ("bar", 1, 1, 1))))
        self.assertIs(type(bench.standing[0][1]), tuple)
        self.assertEqual(bench.start, Book(Ties((0, 1)), [(0, 0, 1)]))

    def test_the_log_is_read_and_not_assigned(self):
        bench = Bench(START)
        self.assertEqual(bench.log, ())
        bench.make(["let", 0, 0, 1])
        self.assertEqual(bench.log, (("make", 1, ("let", 0, 0, 1)),))
        with self.assertRaises(AttributeError):
            bench.log = ()
        self.assertEqual(bench.log, (("make", 1, ("let", 0, 0, 1)),))

    def test_nothing_is_kept(self):
        change = ["bar", 0, 0, 0]
        bench = Bench(START)
        bench.make(change)
        change[0] = "let"
        self.assertEqual(bench.standing, ((1, ("bar", 0, 0, 0)),))
        standing, log = bench.standing, bench.log
        bench.take_back(1)
        self.assertEqual((len(standing), len(log)), (1, 1))

    def test_random_walks(self):
        chance = random.Random(1)
        told = {"rests": 0, "needless": 0, "no number": 0}
        for backs in ((0, 1), (1, 0), (0, 2, 1), (0, 1, 2, 3)):
            for _ in range(25):
                bench = Bench(Book(Ties(backs), [three for three in classes(backs) if chance.random() < 0.4]))
                plain = Plain(bench.book)
                for _ in range(25):
                    if chance.random() < 0.6:
                        three = chance.choice(sorted(closed(backs, [chance.choice(classes(backs))])))
                        change = (chance.choice(("bar", "let")), *three)
                        expected = plain.make(change)
                        if expected == "needless":
                            told[expected] += 1
                            self.refused(bench, BadChange, lambda: bench.make(list(change)), index=0, what="needless")
                        else:
                            self.assertEqual(bench.make(change), expected)
                    else:
                        number = chance.randint(0, plain.last + 1)
                        expected = plain.take_back(number)
                        if expected == "no number":
                            told[expected] += 1
                            self.refused(bench, NoNumber, lambda: bench.take_back(number), number=number)
                        elif expected is not None:
                            told["rests"] += 1
                            self.refused(bench, Rests, lambda: bench.take_back(number), number=expected)
                        else:
                            self.assertIsNone(bench.take_back(number))
                    self.check(bench, plain)
        self.assertGreater(min(told.values()), 20, told)

    def test_in_any_order(self):
        chance = random.Random(2)
        for book in all_books((0, 2, 1))[::5]:
            bench = Bench(book)
            changes = [("let" if three in book.barred else "bar", *three) for three in classes((0, 2, 1))]
            for change in changes:
                bench.make(change)
            numbers = list(range(1, len(changes) + 1))
            chance.shuffle(numbers)
            for number in numbers:
                bench.take_back(number)
            self.assertEqual((bench.book, bench.standing), (book, ()))
            self.assertEqual(len(bench.log), 2 * len(changes))

    def test_verdict_now(self):
        chance = random.Random(3)
        for backs in ((0, 1), (1, 0), (0, 2, 1)):
            for _ in range(10):
                bench = Bench(Book(Ties(backs)))
                for three in chance.sample(classes(backs), len(classes(backs))):
                    self.check_verdict(bench)
                    bench.make(("bar", *three))
                for number in range(1, bench.standing[-1][0] + 1):
                    self.check_verdict(bench)
                    bench.take_back(number)
                self.check_verdict(bench)

    def check_verdict(self, bench):
        told = bench.verdict_now()
        book = Book(Ties(bench.start.ties.backs), bench.book.barred)
        self.assertEqual(told.KIND, verdict_of(book).KIND)
        if told.KIND == "clash":
            self.assertIsNone(clash_fault(book, told))
        if told.KIND == "joins":
            self.assertIsNone(joins_fault(book, told))


class TestRefused(BenchCase):
    def setUp(self):
        self.bench = Bench(START)
        self.bench.make(("let", 0, 0, 1))
        self.bench.make(("bar", 1, 1, 1))

    def test_make(self):
        for change in (None, "bar", ("bar", 0, 0), ("Bar", 0, 0, 0), (True, 0, 0, 0), [("bar", 0, 0, 0)]):
            self.refused(self.bench, BadChange, lambda: self.bench.make(change), index=0, what="change")
        for three in ((2, 0, 0), (0, True, 0), (0, 0, None)):
            for word in ("bar", "let"):
                self.refused(self.bench, BadChange, lambda: self.bench.make((word, *three)), index=0, what="three")
        for change in (("let", 0, 1, 0), ("bar", 1, 1, 1), ("let", 0, 0, 0)):
            self.refused(self.bench, BadChange, lambda: self.bench.make(change), index=0, what="needless")
        self.assertEqual(self.bench.make(("bar", 0, 0, 0)), 3)

    def test_no_number(self):
        for number in (0, 3, -1, True, False, None, "1", 1.0, (1,), [1]):
            self.refused(self.bench, NoNumber, lambda: self.bench.take_back(number), number=number)
        self.bench.take_back(1)
        self.refused(self.bench, NoNumber, lambda: self.bench.take_back(1), number=1)

    def test_rests(self):
        self.bench.make(("bar", 0, 1, 0))
        self.bench.make(("let", 1, 1, 1))
        self.bench.make(("let", 0, 0, 1))
        # Without the first one the third is needless; without the third one the fifth.
        self.refused(self.bench, Rests, lambda: self.bench.take_back(1), number=3)
        self.refused(self.bench, Rests, lambda: self.bench.take_back(2), number=4)
        self.refused(self.bench, Rests, lambda: self.bench.take_back(3), number=5)
        self.bench.take_back(5)
        self.bench.take_back(3)
        self.bench.take_back(1)
        self.assertEqual(self.bench.standing, ((2, ("bar", 1, 1, 1)), (4, ("let", 1, 1, 1))))

    def test_the_first_of_those_that_rest(self):
        self.bench.make(("bar", 0, 0, 1))
        self.bench.make(("let", 0, 0, 1))
        self.refused(self.bench, Rests, lambda: self.bench.take_back(1), number=3)
        # The fourth one stands again if the third is taken back: the first and it let the same.
        self.refused(self.bench, Rests, lambda: self.bench.take_back(3), number=4)


class TestTrials(BenchCase):
    def setUp(self):
        self.bench = Bench(START)
        self.bench.make(("let", 0, 0, 1))
        self.before = self.state(self.bench)

    def test_a_trial(self):
        with self.bench.trial() as held:
            self.assertIs(held, self.bench)
            self.assertEqual(held.make(("bar", 1, 1, 1)), 2)
            held.take_back(1)
            self.assertEqual(len(held.log), 3)
        self.assertEqual(self.state(self.bench), self.before)
        # The numbers are as they were, too.
        self.assertEqual(self.bench.make(("bar", 1, 1, 1)), 2)

    def test_it_begins_with_the_block(self):
        trial = self.bench.trial()
        self.bench.make(("bar", 0, 0, 0))
        before = self.state(self.bench)
        with trial:
            self.bench.take_back(1)
        self.assertEqual(self.state(self.bench), before)

    def test_an_object_used_twice(self):
        trial = self.bench.trial()
        with trial as held:
            held.make(("bar", 1, 1, 1))
        self.assertEqual(self.state(self.bench), self.before)
        self.bench.make(("bar", 0, 0, 0))
        before = self.state(self.bench)
        with trial as held:
            self.assertIs(held, self.bench)
            held.take_back(2)
            inner = self.state(self.bench)
            with trial:
                held.take_back(1)
            self.assertEqual(self.state(self.bench), inner)
        self.assertEqual(self.state(self.bench), before)

    def test_an_error_ends_it(self):
        for error in (KeyError, ZeroDivisionError, KeyboardInterrupt):
            with self.assertRaises(error):
                with self.bench.trial():
                    self.bench.make(("bar", 1, 1, 1))
                    raise error()
            self.assertEqual(self.state(self.bench), self.before)
        with self.assertRaises(BadChange):
            with self.bench.trial():
                self.bench.make(("bar", 1, 1, 1))
                self.bench.make(("bar", 1, 1, 1))
        self.assertEqual(self.state(self.bench), self.before)

    def test_trials_within_trials(self):
        with self.bench.trial():
            self.bench.make(("bar", 1, 1, 1))
            middle = self.state(self.bench)
            with self.assertRaises(Rests):
                with self.bench.trial():
                    self.bench.make(("bar", 0, 0, 1))
                    with self.bench.trial():
                        self.bench.take_back(3)
                        self.bench.take_back(1)
                    self.assertEqual(len(self.bench), 3)
                    self.bench.take_back(1)
            self.assertEqual(self.state(self.bench), middle)
            with self.bench.trial():
                self.bench.take_back(2)
            self.assertEqual(self.state(self.bench), middle)
            self.assertEqual(self.bench.make(("bar", 0, 0, 0)), 3)
        self.assertEqual(self.state(self.bench), self.before)

    def test_tried(self):
        def call(bench):
            self.assertIs(bench, self.bench)
            bench.make(("bar", 1, 1, 1))
            return bench.tried(lambda again: (again.make(("bar", 0, 0, 0)), bench.book)), bench.standing
        (number, book), standing = self.bench.tried(call)
        self.assertEqual((number, len(standing)), (3, 2))
        self.assertEqual(book, Book(START.ties, [(0, 0, 0), (1, 1, 1)]))
        self.assertEqual(self.state(self.bench), self.before)
        self.assertIsNone(self.bench.tried(lambda bench: bench.take_back(1)))
        self.assertEqual(self.state(self.bench), self.before)

    def test_tried_with_a_call_that_raises(self):
        def call(bench):
            bench.take_back(1)
            bench.make(("bar", 0, 0, 0))
            raise LookupError("told")
        with self.assertRaises(LookupError) as caught:
            self.bench.tried(call)
        self.assertEqual(str(caught.exception), "told")
        self.assertEqual(self.state(self.bench), self.before)
        with self.assertRaises(NoNumber):
            self.bench.tried(lambda bench: bench.take_back(9))
        self.assertEqual(self.state(self.bench), self.before)


if __name__ == "__main__":
    unittest.main()
