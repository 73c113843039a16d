"""[10.6] to [10.8]: ties seen as other ties."""

import random
import unittest
from itertools import product

from asking import holds, random_question
from joinedguests.book import Book
from joinedguests.errors import BadQuestion, BadSeeing, NoTie, OtherTie, OtherTies, TooMany
from joinedguests.meaning import meaning_of
from joinedguests.questions import And, Not, Or, Same, Somebody, TieIs
from joinedguests.seen import Seeing, led_question, lifted_companies, seen_book, seen_company, unseen_book
from joinedguests.shapes import spread_ties
from joinedguests.ties import Ties
from joinedguests.verdict import joins_strictly
from oracle import BACKS, all_books, chain, classes, company, let_rows, search, tie_in


def seeing_fault(backs, onto):
    """The index and the word of BadSeeing for a sequence of as many whole numbers as ties, or None."""
    many = range(len(backs))
    for index, tie in enumerate(onto):
        if tie not in many:
            return (index, "tie")
    for tie in many:
        if (tie < 2 or tie < max(onto)) and tie not in onto:
            return (tie, "missing")
    for index in many:
        if any(onto[index] == onto[ahead] and onto[backs[index]] != onto[backs[ahead]] for ahead in range(index)):
            return (index, "back")
    return None


def all_seeings():
    for backs in BACKS:
        for onto in product(range(len(backs)), repeat=len(backs)):
            if seeing_fault(backs, onto) is None:
                yield Seeing(Ties(backs), onto)


def random_book(chance, ties):
    rate = chance.random()
    return Book(ties, [three for three in classes(ties.backs) if chance.random() < rate])


class TestSeeing(unittest.TestCase):
    def bad(self, ties, onto, index, what):
        with self.assertRaises(BadSeeing) as caught:
            Seeing(ties, onto)
        self.assertEqual((caught.exception.index, caught.exception.what), (index, what), (ties.backs, onto))

    def test_all(self):
        """All sequences of numbers that may be ties, or are too great by one."""
        counts = {}
        for backs in BACKS:
            for onto in product(range(len(backs) + 1), repeat=len(backs)):
                fault = seeing_fault(backs, onto)
                counts[fault and fault[1]] = counts.get(fault and fault[1], 0) + 1
                if fault is not None:
                    self.bad(Ties(backs), onto, *fault)
                    continue
                seeing = Seeing(Ties(backs), list(onto))
                self.assertEqual((seeing.ties, seeing.onto), (Ties(backs), onto))
                self.assertEqual(seeing.seen_ties.many, max(onto) + 1)
                for tie, seen in enumerate(onto):
                    self.assertEqual(seeing.seen_ties.back(seen), onto[backs[tie]])
                for seen in range(max(onto) + 1):
                    found = seeing.ties_seen_as(seen)
                    self.assertEqual(found, tuple(tie for tie in range(len(backs)) if onto[tie] == seen))
        self.assertEqual(set(counts), {None, "tie", "missing", "back"})

    def test_sequence(self):
        for onto in (None, "01", {0: 0, 1: 1}, (), (0,), (0, 1, 2), range(2), 1, {0, 1}):
            self.bad(Ties((0, 1)), onto, 0, "sequence")

    def test_tie(self):
        ties = Ties((0, 1, 2))
        for onto, index in [
            ((0, True, 1), 1), ((False, 1, 1), 0), ((0, 1, None), 2), ((0, -1, 9), 1), (("0", 1, 1), 0), ((0, 1, 1.0), 2),
            ((0, [], 1), 1),
        ]:
            self.bad(ties, onto, index, "tie")

    def test_each_word_for_all_items_ahead_of_the_next(self):
        # A missing one, then an item that is no tie; backs that differ, and a missing one.
        self.bad(Ties((0, 1, 2)), (2, 2, 3), 2, "tie")
        self.bad(Ties((1, 0, 2)), (2, 0, 2), 1, "missing")
        self.bad(Ties((1, 0, 2)), (0, 1, 0), 2, "back")
        self.bad(Ties((0, 1, 2, 3)), (0, 3, 0, 3), 1, "missing")
        self.bad(Ties((0, 1, 2, 3)), (1, 1, 3, 3), 0, "missing")
        self.bad(Ties((0, 1, 2, 3)), (0, 1, 1, 3), 2, "missing")
        self.bad(Ties((0, 1)), (0, 0), 1, "missing")
        self.bad(Ties((0, 1)), (1, 1), 0, "missing")

    def test_ties_seen_as(self):
        seeing = Seeing(Ties((0, 1, 3, 2)), (1, 0, 2, 2))
        self.assertEqual([seeing.ties_seen_as(tie) for tie in range(3)], [(1,), (0,), (2, 3)])
        self.assertEqual(seeing.seen_ties, Ties((0, 1, 2)))
        for tie in (3, -1, True, None, "0", 1.0):
            with self.assertRaises(NoTie) as caught:
                seeing.ties_seen_as(tie)
            self.assertIs(caught.exception.tie, tie)

    def test_equality(self):
        one = Seeing(Ties((0, 1, 2)), (0, 1, 1))
        self.assertEqual(one, Seeing(Ties([0, 1, 2]), [0, 1, 1]))
        for thing in (Seeing(Ties((0, 1, 2)), (0, 1, 0)), Seeing(Ties((0, 2, 1)), (0, 1, 1)), (0, 1, 1), None):
            self.assertNotEqual(one, thing)

    def test_lists_changed_later(self):
        onto = [0, 1, 1]
        seeing = Seeing(Ties((0, 1, 2)), onto)
        onto[2] = 0
        self.assertEqual(seeing.onto, (0, 1, 1))


class TestSeenCompany(unittest.TestCase):
    def test_random_companies(self):
        chance = random.Random(1)
        for seeing in all_seeings():
            backs = seeing.ties.backs
            count = chance.randint(0, 5)
            rows = tuple(tuple(chance.randrange(len(backs)) for _ in range(j)) for j in range(count))
            told = company(backs, rows, sorted(chance.sample(range(20), count)))
            found = seen_company(seeing, told)
            self.assertEqual((found.ties, found.guests), (seeing.seen_ties, told.guests))
            for j in range(count):
                for i in range(count):
                    if i != j:
                        self.assertEqual(
                            tie_in(found.ties.backs, found.rows, j, i), seeing.onto[tie_in(backs, rows, j, i)])

    def test_other_ties(self):
        seeing = Seeing(Ties((0, 2, 1)), (0, 1, 1))
        for backs in ((0, 1, 2), (0, 1)):
            with self.assertRaises(OtherTies):
                seen_company(seeing, chain(backs, 0, [1, 2]))


class TestBooks(unittest.TestCase):
    def test_all_threes(self):
        chance = random.Random(2)
        for seeing in all_seeings():
            many, seen_many = range(seeing.ties.many), range(seeing.seen_ties.many)
            book = random_book(chance, seeing.ties)
            found = seen_book(seeing, book)
            let = {tuple(seeing.onto[tie] for tie in three) for three in product(many, repeat=3) if three not in book.barred}
            self.assertEqual(found.ties, seeing.seen_ties)
            self.assertEqual(found.barred, tuple(three for three in product(seen_many, repeat=3) if three not in let))
            book = random_book(chance, seeing.seen_ties)
            found = unseen_book(seeing, book)
            self.assertEqual(found.ties, seeing.ties)
            self.assertEqual(found.barred, tuple(
                three for three in product(many, repeat=3) if tuple(seeing.onto[tie] for tie in three) in book.barred))
            self.assertEqual(seen_book(seeing, found), book)

    def test_unseen_books_join_strictly_as_the_book_does(self):
        chance = random.Random(3)
        counts = {True: 0, False: 0}
        for seeing in all_seeings():
            two = seeing.seen_ties.many == 2
            books = all_books(seeing.seen_ties.backs) if two else [random_book(chance, seeing.seen_ties) for _ in range(3)]
            for book in books:
                strict = joins_strictly(book)
                self.assertIs(joins_strictly(unseen_book(seeing, book)), strict)
                counts[strict] += 1
        self.assertTrue(min(counts.values()) > 200, counts)
        for book in all_books((0, 1)):
            unseen = unseen_book(Seeing(Ties((0, 2, 1)), (0, 1, 1)), book)
            kinds = [search(told.ties.backs, told.barred, told.ties.many)[0] == "strict" for told in (book, unseen)]
            self.assertEqual(kinds[0], kinds[1])

    def test_other_ties(self):
        seeing = Seeing(Ties((0, 2, 1)), (0, 1, 1))
        for call, right in [(seen_book, (0, 2, 1)), (unseen_book, (0, 1))]:
            for backs in BACKS:
                if backs == right:
                    self.assertEqual(call(seeing, Book(Ties(backs))).barred, ())
                else:
                    with self.assertRaises(OtherTies):
                        call(seeing, Book(Ties(backs)))


class TestLifted(unittest.TestCase):
    def test_against_a_search(self):
        chance = random.Random(4)
        lifted = 0
        seeings = list(all_seeings())
        for seeing in seeings + seeings:
            backs = seeing.ties.backs
            count = chance.randint(0, 4 if len(backs) < 4 else 3)
            book = random_book(chance, seeing.ties)
            told = company(
                seeing.seen_ties.backs,
                [[chance.randrange(seeing.seen_ties.many) for _ in range(j)] for j in range(count)],
                sorted(chance.sample(range(9), count)))
            expected = [
                rows for rows in let_rows(backs, book.barred, count)
                if tuple(tuple(seeing.onto[tie] for tie in row) for row in rows) == told.rows]
            found = list(lifted_companies(seeing, book, told))
            self.assertEqual([part.rows for part in found], expected)
            self.assertEqual([(part.ties, part.guests) for part in found], [(seeing.ties, told.guests)] * len(found))
            self.assertTrue(all(book.lets(part) and seen_company(seeing, part) == told for part in found))
            lifted += len(found) > 1
        self.assertTrue(lifted > 40, lifted)

    def test_six_guests(self):
        seeing = Seeing(Ties((0, 2, 1)), (0, 1, 1))
        # All orders of six guests: the ties 1 and 2 lead on and back.
        book = Book(Ties((0, 2, 1)), [(1, 1, 2)])
        told = chain((0, 1), 1, [1, 2, 3, 5, 8, 9])
        self.assertEqual(len(list(lifted_companies(seeing, book, told))), 720)
        rows = [part.rows for part in lifted_companies(seeing, book, told)]
        self.assertEqual(rows, sorted(rows))
        self.assertEqual(list(lifted_companies(seeing, Book(Ties((0, 2, 1)), [(0, 0, 0)]), chain((0, 1), 0, [1, 2, 3]))), [])

    def test_refused_in_order(self):
        seeing = Seeing(Ties((0, 2, 1)), (0, 1, 1))
        book, seven = Book(Ties((0, 2, 1))), chain((0, 1), 0, list(range(7)))
        for book_told, told in [
            (Book(Ties((0, 1))), seven), (book, chain((0, 2, 1), 0, list(range(7)))), (book, chain((1, 0), 0, [1])),
            (Book(Ties((0, 1, 2))), seven),
        ]:
            with self.assertRaises(OtherTies):
                list(lifted_companies(seeing, book_told, told))
        for count in (7, 9):
            with self.assertRaises(TooMany) as caught:
                list(lifted_companies(seeing, book, chain((0, 1), 0, list(range(count)))))
            self.assertEqual(caught.exception.count, count)


class TestLedQuestion(unittest.TestCase):
    def test_by_hand(self):
        seeing = Seeing(Ties((0, 1, 3, 2)), (1, 0, 1, 1))
        for question, text in [
            (TieIs("a", 0, "b"), "a-1-b"), (TieIs("a", 1, "b"), "((a-0-b or a-2-b) or a-3-b)"), (Same("a", "b"), "a=b"),
            (Somebody("c", Not(TieIs("c", 1, "a"))), "some c not ((c-0-a or c-2-a) or c-3-a)"),
            (Or(TieIs("a", 0, "b"), And(Same("a", "b"), TieIs("b", 0, "a"))), "(a-1-b or (a=b and b-1-a))"),
        ]:
            self.assertEqual(str(led_question(seeing, question)), text)

    def test_answers_on_both_sides(self):
        chance = random.Random(5)
        for seeing in all_seeings():
            backs, seen_backs = seeing.ties.backs, seeing.seen_ties.backs
            count = chance.randint(1, 4)
            rows = tuple(tuple(chance.randrange(len(backs)) for _ in range(j)) for j in range(count))
            told = company(backs, rows)
            seen = seen_company(seeing, told)
            for _ in range(4):
                question = random_question(chance, "ab", seeing.seen_ties.many, chance.randint(1, 12))
                led = led_question(seeing, question)
                groups = [[tie for tie in range(len(backs)) if seeing.onto[tie] == seen_tie] for seen_tie in range(4)]
                self.assertEqual(led, spread_ties(question, groups[:seeing.seen_ties.many]))
                self.assertEqual(led.free, question.free)
                seats = {name: chance.randrange(count) for name in question.free}
                expected = holds(question, seen_backs, seen.rows, seats)
                self.assertIs(holds(led, backs, rows, seats), expected)
                self.assertIs(meaning_of(led, told, list(seats.items())), expected)

    def test_refused(self):
        seeing = Seeing(Ties((0, 1, 2)), (0, 1, 1))
        for question, tie in [(TieIs("a", 2, "b"), 2), (Not(Or(TieIs("a", 3, "b"), TieIs("a", 2, "b"))), 3)]:
            with self.assertRaises(OtherTie) as caught:
                led_question(seeing, question)
            self.assertEqual(caught.exception.tie, tie)
        question = TieIs("a", 1, "b")
        for _ in range(99):
            question = Or(question, TieIs("a", 0, "b"))
        self.assertEqual(question.size, 199)
        with self.assertRaises(BadQuestion) as caught:
            led_question(seeing, question)
        self.assertEqual(caught.exception.what, "long")
        # The tie comes ahead of the length.
        with self.assertRaises(OtherTie):
            led_question(seeing, Not(question.one) | TieIs("a", 2, "b"))


if __name__ == "__main__":
    unittest.main()
